"""The book: who can do what on which thing, by whose giving, and what might still come of it."""

from passkeep.errors import NoTask, NoThing
from passkeep.kernel import handle_at, need_to_be_rights
from passkeep.rights import HEAR, PASS, is_number, within
from passkeep.things import Door


def need_thing(kernel, thing):
    # The number first: 1 and True are one key to a dict.
    if not is_number(thing) or thing not in kernel.things:
        raise NoThing("no thing has such a number")


# Of those numbers alone that are kept: a slot or a letter may have one that is gone.
def handles_kept(kernel, numbers):
    return [kernel.tree.handle(number) for number in numbers if kernel.tree.keeps(number)]


def handles_of(kernel, task):
    return handles_kept(kernel, [number for slot, number in kernel.tasks.slots(task)])


def rights_by_things(kernel, task):
    found = {}
    for handle in handles_of(kernel, task):
        found[handle.thing] = found.get(handle.thing, 0) | handle.rights
    return found


def can(kernel, task, thing):
    found = rights_by_things(kernel, task)
    need_thing(kernel, thing)
    return found.get(thing, 0)


def has_one_with(kernel, task, thing, rights):
    handles = [handle for handle in handles_of(kernel, task) if handle.thing == thing]
    return any([within(rights, handle.rights) for handle in handles])


def who_can(kernel, thing, rights):
    need_thing(kernel, thing)
    need_to_be_rights(rights)
    return [task for task in kernel.tasks.running() if has_one_with(kernel, task, thing, rights)]


def chain_of(kernel, task, slot):
    handle = handle_at(kernel, task, slot)
    chain = handles_kept(kernel, kernel.tree.chain(handle.number))
    return [(one.holder, one.rights) for one in chain]


def given_to(kernel, task, slot):
    top = handle_at(kernel, task, slot).number
    far = {top: 0}
    found = []
    for handle in handles_kept(kernel, kernel.tree.below(top)):
        # A giver is listed ahead of all that stands below it.
        far[handle.number] = far[handle.giver] + 1
        found.append((far[handle.number], handle.holder, handle.rights))
    return found


def page_of(kernel, task):
    found = rights_by_things(kernel, task)
    page = {}
    for thing in sorted(kernel.things):
        if found.get(thing, 0) != 0:
            page[thing] = found[thing]
    return page


def book(kernel):
    pages = {}
    for task in kernel.tasks.running():
        pages[task] = page_of(kernel, task)
    return pages


# What might come to be, as far as it is reckoned: what each task has by itself, and what is passed on to all.
class Outlook:
    def __init__(self):
        self.alone = {}
        self.passed = {}

    def might_have(self, task, thing):
        return self.alone.get((task, thing), 0) | self.passed.get(thing, 0)

    def has(self, task, handle):
        place = (task, handle.thing)
        self.alone[place] = self.alone.get(place, 0) | handle.rights

    def has_and_acts(self, task, handle):
        self.has(task, handle)
        if within(PASS, handle.rights):
            self.passed[handle.thing] = self.passed.get(handle.thing, 0) | handle.rights


def those_that_act(kernel, still):
    quiet = [] if still is None else still
    if not isinstance(quiet, (list, tuple)):
        raise NoTask("those that are still are told as a tuple or a list")
    for task in quiet:
        kernel.tasks.need(task)
    return [task for task in kernel.tasks.running() if task not in quiet]


def parts_waiting(kernel, door):
    numbers = []
    for letter in door.letters():
        numbers.extend(letter.parts)
    return handles_kept(kernel, numbers)


def hearings(kernel, acting, outlook):
    doors = [thing.number for thing in kernel.things.values() if isinstance(thing, Door)]
    found = []
    for task in acting:
        found.extend([(task, door) for door in doors if within(HEAR, outlook.might_have(task, door))])
    return found


# What is heard at one door may open another: so it is asked again until nothing new comes.
def reckon_letters(kernel, acting, outlook):
    heard = {}
    coming = hearings(kernel, acting, outlook)
    while len(coming) > 0:
        for task, door in coming:
            heard[(task, door)] = True
            for part in parts_waiting(kernel, kernel.things[door]):
                outlook.has_and_acts(task, part)
        coming = [hearing for hearing in hearings(kernel, acting, outlook) if hearing not in heard]


def could(kernel, task, thing, still=None):
    kernel.tasks.need(task)
    need_thing(kernel, thing)
    acting = those_that_act(kernel, still)
    outlook = Outlook()
    for handle in handles_of(kernel, task):
        outlook.has(task, handle)
    for other in acting:
        for handle in handles_of(kernel, other):
            outlook.has_and_acts(other, handle)
    reckon_letters(kernel, acting, outlook)
    return outlook.might_have(task, thing)
