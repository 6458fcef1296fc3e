"""The kernel: tasks that make things, start tasks, and narrow and hand on handles."""

from passkeep.errors import Lacks, NoKind, NoRights, TooMany
from passkeep.rights import PASS, is_rights, missing, within
from passkeep.tasks import Tasks
from passkeep.things import Cell, Door, Line, Post
from passkeep.tree import Tree

MOST_THINGS = 40


class Kernel:
    def __init__(self, name):
        self.tree = Tree()
        self.tasks = Tasks()
        self.things = {}
        self.tasks.added(name, "")


def begun(name):
    return Kernel(name)


def handle_at(kernel, task, slot):
    return kernel.tree.handle(kernel.tasks.at(task, slot))


def need_rights(rights, had):
    if not within(rights, had):
        raise Lacks(missing(rights, had))


def need_to_be_rights(rights):
    if not is_rights(rights):
        raise NoRights("rights are a number from 0 to 63")


def need_empty_slot(kernel, task):
    if kernel.tasks.free(task) == 0:
        raise TooMany("the task has no empty slot")


def need_room_for_thing(kernel, task):
    if len(kernel.things) >= MOST_THINGS:
        raise TooMany("there are as many things as may be")
    need_empty_slot(kernel, task)


def new_thing(kernel, kind):
    # Things never go, so their count is the number of the one that comes.
    number = len(kernel.things)
    if kind == "cell":
        return Cell(number)
    if kind == "line":
        return Line(number)
    return Door(number)


# The room must be there already: from here on nothing is refused.
def kept_for(kernel, task, thing):
    kernel.things[thing.number] = thing
    number = kernel.tree.rooted(thing.number, thing.fits() | PASS, task)
    return kernel.tasks.put(task, number)


def handed_down(kernel, handle, rights, task):
    need_empty_slot(kernel, task)
    number = kernel.tree.derived(handle.number, rights, task)
    return kernel.tasks.put(task, number)


def make(kernel, task, kind):
    kernel.tasks.need(task)
    if not isinstance(kind, str) or kind not in ("cell", "line", "door"):
        raise NoKind("a cell, a line or a door can be made")
    need_room_for_thing(kernel, task)
    return kept_for(kernel, task, new_thing(kernel, kind))


def start(kernel, task, name):
    kernel.tasks.need(task)
    # Asked here too, since a bad name goes ahead of what there is no room for.
    kernel.tasks.need_new(name)
    need_room_for_thing(kernel, task)
    kernel.tasks.added(name, task)
    return kept_for(kernel, task, Post(len(kernel.things), name))


def narrow(kernel, task, slot, rights):
    handle = handle_at(kernel, task, slot)
    need_to_be_rights(rights)
    need_rights(rights, handle.rights)
    return handed_down(kernel, handle, rights, task)


def hand(kernel, task, slot, other, rights=None):
    handle = handle_at(kernel, task, slot)
    kernel.tasks.need(other)
    asked = handle.rights if rights is None else rights
    need_to_be_rights(asked)
    need_rights(PASS | asked, handle.rights)
    return handed_down(kernel, handle, asked, other)
