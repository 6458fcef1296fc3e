"""The log: what tasks do, told as rows and done by them."""

from passkeep.deeds import call_back, do, give_up
from passkeep.errors import (
    Empty, Full, Lacks, NoDeed, NoHandle, NoKind, NoName, NoRights, NoRow, NoTask, NoThing, NoValue, NoWords,
    PassError, Taken, TooGreat, TooMany,
)
from passkeep.kernel import begun, hand, make, narrow, start
from passkeep.letters import hear, send
from passkeep.rights import words_of

# For each word how many things must stand behind it, and then what is taken for those that may be left out.
ROW_FORMS = {
    "make": (1, ()),
    "start": (1, ()),
    "narrow": (2, ()),
    "hand": (2, (None,)),
    "back": (1, ()),
    "give": (1, ()),
    "do": (2, (0,)),
    "send": (2, (None, 63)),
    "hear": (1, ()),
}


def need_row(row):
    if not isinstance(row, tuple) or len(row) < 2:
        raise NoRow("a row is a tuple of a task, a word and more")
    # The text first, since what is none need not be fit for a look-up.
    if not isinstance(row[1], str) or row[1] not in ROW_FORMS:
        raise NoRow("no row has such a word")
    form = ROW_FORMS[row[1]]
    if not form[0] <= len(row) - 2 <= form[0] + len(form[1]):
        raise NoRow("a row of this word has another number of things")


def filled_up(row):
    form = ROW_FORMS[row[1]]
    rest = row[2:]
    return rest + form[1][len(rest) - form[0]:]


def acted(kernel, row):
    need_row(row)
    task = row[0]
    word = row[1]
    rest = filled_up(row)
    if word == "make":
        return make(kernel, task, rest[0])
    if word == "start":
        return start(kernel, task, rest[0])
    if word == "narrow":
        return narrow(kernel, task, rest[0], rest[1])
    if word == "hand":
        return hand(kernel, task, rest[0], rest[1], rest[2])
    if word == "back":
        return call_back(kernel, task, rest[0])
    if word == "give":
        return give_up(kernel, task, rest[0])
    if word == "do":
        return do(kernel, task, rest[0], rest[1], rest[2])
    if word == "send":
        return send(kernel, task, rest[0], rest[1], rest[2], rest[3])
    return hear(kernel, task, rest[0])


# Class by class, since the program does not ask a class for its own name.
def word_of_what_is_none(error):
    if isinstance(error, NoRights):
        return "NoRights"
    if isinstance(error, NoName):
        return "NoName"
    if isinstance(error, NoValue):
        return "NoValue"
    if isinstance(error, NoWords):
        return "NoWords"
    if isinstance(error, NoKind):
        return "NoKind"
    if isinstance(error, NoTask):
        return "NoTask"
    if isinstance(error, NoHandle):
        return "NoHandle"
    if isinstance(error, NoThing):
        return "NoThing"
    if isinstance(error, NoRow):
        return "NoRow"
    if isinstance(error, NoDeed):
        return "NoDeed"
    return "PassError"


def refusal_word(error):
    if isinstance(error, Lacks):
        return "Lacks " + words_of(error.missing)
    if isinstance(error, Taken):
        return "Taken"
    if isinstance(error, TooMany):
        return "TooMany"
    if isinstance(error, TooGreat):
        return "TooGreat"
    if isinstance(error, Empty):
        return "Empty"
    if isinstance(error, Full):
        return "Full"
    return word_of_what_is_none(error)


def came_of(kernel, row):
    try:
        answer = acted(kernel, row)
    except PassError as error:
        return ("refused", refusal_word(error))
    return ("told", answer)


def played(name, rows):
    kernel = begun(name)
    outcomes = []
    for row in rows:
        outcomes.append(came_of(kernel, row))
    return (kernel, outcomes)
