"""The showing: all of a kernel as rows of text."""

from passkeep.rights import words_of
from passkeep.things import Door


def joined_words(rights):
    return words_of(rights).replace(" ", "+")


def holder_shown(holder):
    return "-" if holder == "" else holder


def giver_shown(giver):
    return "-" if giver is None else str(giver)


# The desk tells a letter in this form, too; the parts are texts.
def letter_shown(words, parts):
    return " ".join(["[" + words + "]"] + parts)


def task_shown(kernel, task):
    slots = [str(slot) + ":" + str(number) for slot, number in kernel.tasks.slots(task)]
    return " ".join(["task", task] + slots)


def letters_shown(thing):
    if not isinstance(thing, Door):
        return []
    return [letter_shown(letter.words, [str(part) for part in letter.parts]) for letter in thing.letters()]


def thing_shown(number, thing):
    told = [str(part) for part in thing.told()]
    return " ".join(["thing", str(number)] + told + letters_shown(thing))


def handle_shown(handle):
    giver = giver_shown(handle.giver)
    words = joined_words(handle.rights)
    return " ".join(["handle", str(handle.number), giver, str(handle.thing), words, holder_shown(handle.holder)])


def shown(kernel):
    tasks = [task_shown(kernel, task) for task in kernel.tasks.running()]
    things = [thing_shown(number, kernel.things[number]) for number in sorted(kernel.things)]
    handles = [handle_shown(kernel.tree.handle(number)) for number in kernel.tree.kept()]
    return tasks + things + handles
