"""Letters: words and handles that wait at a door until a task hears them."""

from passkeep.errors import Empty, Full, NoDeed, NoHandle, NoWords, TooMany
from passkeep.kernel import handle_at, need_rights, need_to_be_rights
from passkeep.rights import HEAR, PASS, SEND, are_words, narrowed
from passkeep.things import DOOR_ROOM, Door

MOST_PARTS = 4


class Letter:
    def __init__(self, words, parts):
        self.words = words
        self.parts = parts


def door_of(kernel, handle, deed):
    thing = kernel.things[handle.thing]
    if not isinstance(thing, Door):
        raise NoDeed(deed)
    return thing


def slots_told(slots):
    if slots is None:
        return []
    if not isinstance(slots, (list, tuple)):
        raise NoHandle("slots are told as a tuple or a list")
    if len(slots) > MOST_PARTS:
        raise TooMany("a letter has at most 4 parts")
    return list(slots)


# All that may be refused is asked ahead of the first new handle.
def need_sendable(kernel, handle, door, givers):
    need_rights(SEND, handle.rights)
    for giver in givers:
        need_rights(PASS, giver.rights)
    for giver in givers:
        kernel.tree.need_room_below(giver.number)
    if len(door.letters()) >= DOOR_ROOM:
        raise Full("as many letters wait as may")


def send(kernel, task, slot, words, slots=None, rights=63):
    handle = handle_at(kernel, task, slot)
    door = door_of(kernel, handle, "send")
    if not are_words(words):
        raise NoWords("words are at most 20 plain signs")
    givers = [handle_at(kernel, task, told) for told in slots_told(slots)]
    need_to_be_rights(rights)
    need_sendable(kernel, handle, door, givers)
    parts = [kernel.tree.derived(giver.number, narrowed(giver.rights, rights), "") for giver in givers]
    return door.did("send", Letter(words, tuple(parts)))


def first_letter(door):
    waiting = door.letters()
    if len(waiting) == 0:
        raise Empty("no letter waits")
    return waiting[0]


def need_slots_for(kernel, task, letter):
    kept = [part for part in letter.parts if kernel.tree.keeps(part)]
    if kernel.tasks.free(task) < len(kept):
        raise TooMany("the task has too few empty slots")


def slot_of_part(kernel, task, part):
    if not kernel.tree.keeps(part):
        return None
    kernel.tree.held(part, task)
    return kernel.tasks.put(task, part)


def hear(kernel, task, slot):
    handle = handle_at(kernel, task, slot)
    door = door_of(kernel, handle, "hear")
    need_rights(HEAR, handle.rights)
    need_slots_for(kernel, task, first_letter(door))
    letter = door.did("hear", 0)
    return (letter.words, [slot_of_part(kernel, task, part) for part in letter.parts])
