"""What the tests of the kernel share: the whole of a kernel as plain values, and refusals that change nothing."""

import copy
import unittest

from passkeep.errors import Lacks, NoDeed
from passkeep.kernel import begun, hand, make, start


class Odd:
    """A thing that can't be looked up, compared or counted."""

    def refuse(self, *others):
        raise RuntimeError("not to be asked")

    __hash__ = __eq__ = __ne__ = __lt__ = __le__ = __gt__ = __ge__ = __len__ = __iter__ = __bool__ = refuse


ODD = Odd()
NO_NUMBERS = (ODD, True, False, None, "", "0", 0.0, 1.0, [], [0], (), (0,), {}, {0: 0}, {0}, b"0", object(), int)
NO_SLOTS = (-1, 16, 17, 10 ** 30) + NO_NUMBERS
NO_RIGHTS = (ODD, -1, 64, 65, 10 ** 30, True, False, "", "look", "1", 1.0, [], [1], (), (1,), {}, {1}, b"1",
             object(), int)
NO_NAMES = (ODD, True, False, None, 0, 7, 1.5, [], ["a"], (), ("a",), {}, {"a": 1}, {"a"}, b"a", object(), str, "",
            "abcdefghi", "a1", "1", "A", "aB", " ", "a ", " a", "a b", "a\n", "a-b", "\u00e4")
NO_VALUES = (ODD, 10 ** 12 + 1, -10 ** 12 - 1, 10 ** 30, True, False, None, "", "0", 0.0, 1.5, [], (), {}, {0}, b"0",
             object(), int)
FULL_NAMES = ("b", "c", "d", "e", "f", "g", "h", "i", "j", "k", "l")


def handle_facts(handle):
    return (handle.number, handle.thing, handle.rights, handle.giver, handle.holder)


def whole_tasks(tasks):
    each = [(name, tasks.slots(name), tasks.made_by(name), tasks.free(name)) for name in tasks.running()]
    return (tasks.names(), each)


def letters_of(thing):
    return [(letter.words, letter.parts) for letter in thing.letters()] if thing.kind() == "door" else []


def whole(kernel):
    handles = [handle_facts(kernel.tree.handle(number)) for number in kernel.tree.kept()]
    # The number that would come is a part of the whole, too; a copy is asked, since the asking takes it.
    following = copy.deepcopy(kernel.tree).rooted(0, 0, "")
    things = [(number, thing.number, thing.told(), letters_of(thing)) for number, thing in kernel.things.items()]
    return (handles, following, whole_tasks(kernel.tasks), things)


def slots_of(kernel, task):
    return dict(kernel.tasks.slots(task))


def number_at(kernel, task, slot):
    return kernel.tasks.at(task, slot)


def facts_at(kernel, task, slot):
    return handle_facts(kernel.tree.handle(kernel.tasks.at(task, slot)))


def with_tasks(names):
    """A kernel begun by ann, who started the others: their posts are in her slots, from 0 on, in order."""
    kernel = begun("ann")
    for name in names:
        start(kernel, "ann", name)
    return kernel


def fill_slots(kernel, task, left=0):
    """Puts numbers that no handle has into a task's slots, until no more than left are empty."""
    while kernel.tasks.free(task) > left:
        kernel.tasks.put(task, 10 ** 6)


def full_of_things(kernel, task):
    """Forty things; the handles of those that come here are called out of the slots again."""
    while len(kernel.things) < 40:
        slot = make(kernel, task, "cell")
        kernel.tasks.taken_out(kernel.tasks.at(task, slot))


def long_chain(kernel, task, slot, length):
    """Hands a handle on to the task itself, until its chain has so many; the last one's slot is told."""
    while len(kernel.tree.chain(kernel.tasks.at(task, slot))) < length:
        lower = hand(kernel, task, slot, task)
        # Out of the slot, not out of the tree: sixteen slots don't hold a chain of forty.
        kernel.tasks.taken_out(kernel.tasks.at(task, slot))
        slot = lower
    return slot


class KernelCase(unittest.TestCase):
    def refused(self, kernel, kind, function, *arguments):
        """The very class, and nothing changed; the error is told."""
        ahead = whole(kernel)
        with self.assertRaises(kind, msg=repr(arguments)) as caught:
            function(kernel, *arguments)
        self.assertIs(type(caught.exception), kind, arguments)
        self.assertEqual(whole(kernel), ahead, arguments)
        return caught.exception

    def lacks(self, kernel, missing, function, *arguments):
        error = self.refused(kernel, Lacks, function, *arguments)
        self.assertEqual(error.missing, missing, arguments)
        self.assertIs(type(error.missing), int)

    def no_deed(self, kernel, deed, function, *arguments):
        self.assertIs(self.refused(kernel, NoDeed, function, *arguments).deed, deed)
