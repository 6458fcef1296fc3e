"""Promises 11, 12 and 13: tasks, their slots, and which made which."""

import unittest

from kernels import FULL_NAMES, NO_NAMES, NO_NUMBERS, NO_SLOTS, whole_tasks
from passkeep.errors import NoHandle, NoName, NoTask, Taken, TooMany
from passkeep.tasks import Tasks

NO_TASKS = NO_NAMES + ("zed", "anna", "ANN", "ann ", "an")


def of_makers(pairs):
    tasks = Tasks()
    for name, maker in pairs:
        tasks.added(name, maker)
    return tasks


def full():
    return of_makers([("a", "")] + [(name, "a") for name in FULL_NAMES])


# a made b, c and g; b made d and f; d made h; c made e; x was made by none and made y.
def family():
    return of_makers([("a", ""), ("b", "a"), ("c", "a"), ("x", ""), ("d", "b"), ("e", "c"), ("f", "b"), ("g", "a"),
                      ("y", "x"), ("h", "d")])


class TasksCase(unittest.TestCase):
    def refused(self, tasks, kind, ask, *arguments):
        ahead = whole_tasks(tasks)
        with self.assertRaises(kind, msg=repr(arguments)) as caught:
            ask(*arguments)
        self.assertIs(type(caught.exception), kind)
        self.assertEqual(whole_tasks(tasks), ahead)


class AddedTest(TasksCase):
    def test_none_at_first(self):
        tasks = Tasks()
        self.assertEqual(tasks.running(), [])
        self.assertEqual(tasks.names(), [])

    def test_added(self):
        tasks = Tasks()
        self.assertIsNone(tasks.added("zoe", ""))
        self.assertIsNone(tasks.added("ann", "zoe"))
        self.assertIsNone(tasks.added("mid", "ann"))
        self.assertIsNone(tasks.added("b", ""))
        self.assertIsNone(tasks.added("abcdefgh", "b"))
        self.assertEqual(tasks.running(), ["zoe", "ann", "mid", "b", "abcdefgh"])
        self.assertEqual(tasks.names(), ["zoe", "ann", "mid", "b", "abcdefgh"])
        self.assertEqual(tasks.made_by("zoe"), ["ann", "mid"])

    def test_no_name(self):
        for tasks in (Tasks(), of_makers([("ann", "")]), full()):
            for name in NO_NAMES:
                self.refused(tasks, NoName, tasks.added, name, "")

    def test_taken(self):
        tasks = of_makers([("ann", ""), ("bob", "ann")])
        self.refused(tasks, Taken, tasks.added, "ann", "")
        self.refused(tasks, Taken, tasks.added, "bob", "ann")
        self.refused(tasks, Taken, tasks.added, "ann", "ann")

    def test_the_name_of_an_ended_task_stays_taken(self):
        tasks = of_makers([("ann", ""), ("bob", "ann"), ("cy", "bob")])
        tasks.stopped("bob")
        for name in ("bob", "cy"):
            self.refused(tasks, Taken, tasks.added, name, "")
        self.assertEqual(tasks.running(), ["ann"])
        self.assertEqual(tasks.names(), ["ann", "bob", "cy"])

    def test_no_task_of_the_maker(self):
        tasks = of_makers([("ann", ""), ("bob", "ann")])
        tasks.stopped("bob")
        for maker in NO_TASKS + ("bob", "dan"):
            # None made it where the maker is the text without signs.
            if not isinstance(maker, str) or maker != "":
                self.refused(tasks, NoTask, tasks.added, "dan", maker)
        self.assertIsNone(tasks.added("dan", ""))

    def test_twelve_run(self):
        tasks = full()
        self.assertEqual(tasks.running(), ["a"] + list(FULL_NAMES))
        self.refused(tasks, TooMany, tasks.added, "new", "")
        self.refused(tasks, TooMany, tasks.added, "new", "a")
        tasks.stopped("e")
        self.assertIsNone(tasks.added("new", "l"))
        self.refused(tasks, TooMany, tasks.added, "newer", "")
        self.assertEqual(tasks.running(), ["a", "b", "c", "d", "f", "g", "h", "i", "j", "k", "l", "new"])
        self.assertEqual(tasks.names(), ["a"] + list(FULL_NAMES) + ["new"])

    def test_many_may_have_been(self):
        tasks = of_makers([("a", "")])
        for first in "bcdefgh":
            for second in "klmno":
                tasks.added(first + second, "a")
                tasks.stopped(first + second)
        self.assertEqual(tasks.running(), ["a"])
        self.assertEqual(len(tasks.names()), 36)

    def test_the_order_of_refusals(self):
        tasks = full()
        self.refused(tasks, NoName, tasks.added, "A", "zed")
        self.refused(tasks, Taken, tasks.added, "b", "zed")
        self.refused(tasks, NoTask, tasks.added, "new", "zed")
        self.refused(tasks, NoTask, tasks.added, "new", "new")
        self.refused(tasks, NoTask, tasks.added, "new", None)
        self.refused(tasks, TooMany, tasks.added, "new", "b")

    def test_need(self):
        tasks = of_makers([("ann", ""), ("bob", "ann"), ("cy", "bob")])
        for name in ("ann", "bob", "cy"):
            self.assertIsNone(tasks.need(name))
        tasks.stopped("bob")
        self.assertIsNone(tasks.need("ann"))
        for name in NO_TASKS + ("bob", "cy"):
            self.refused(tasks, NoTask, tasks.need, name)

    def test_lists_are_the_askers_own(self):
        tasks = family()
        tasks.put("a", 4)
        ahead = whole_tasks(tasks)
        told = [tasks.running(), tasks.names(), tasks.slots("a"), tasks.made_by("a"), tasks.slots("b")]
        for one in told:
            one.append("zed")
            one.reverse()
            self.assertEqual(whole_tasks(tasks), ahead)
        told = [tasks.running(), tasks.names(), tasks.slots("a"), tasks.made_by("a")]
        stays = [list(one) for one in told]
        tasks.taken_out(4)
        tasks.added("new", "a")
        gone = tasks.stopped("b")
        self.assertEqual(told, stays)
        gone.append("c")
        self.assertEqual(tasks.running(), ["a", "c", "x", "e", "g", "y", "new"])

    def test_tasks_keep_to_themselves(self):
        one, other = Tasks(), Tasks()
        one.added("ann", "")
        one.put("ann", 3)
        self.assertEqual(other.names(), [])
        other.added("ann", "")
        self.assertEqual(other.slots("ann"), [])


class SlotsTest(TasksCase):
    def test_sixteen_empty_ones_at_first(self):
        tasks = of_makers([("ann", "")])
        self.assertEqual(tasks.free("ann"), 16)
        self.assertEqual(tasks.slots("ann"), [])

    def test_put_into_the_lowest_empty_one(self):
        tasks = of_makers([("ann", ""), ("bob", "ann")])
        self.assertEqual([tasks.put("ann", number) for number in (30, 10, 20)], [0, 1, 2])
        self.assertEqual(tasks.put("bob", 10), 0)
        self.assertEqual(tasks.slots("ann"), [(0, 30), (1, 10), (2, 20)])
        self.assertEqual(tasks.slots("bob"), [(0, 10)])
        self.assertEqual(tasks.free("ann"), 13)
        self.assertEqual(tasks.free("bob"), 15)

    def test_put_behind_an_emptied_one(self):
        tasks = of_makers([("ann", "")])
        for number in range(6):
            tasks.put("ann", number)
        tasks.taken_out(4)
        tasks.taken_out(1)
        self.assertEqual(tasks.slots("ann"), [(0, 0), (2, 2), (3, 3), (5, 5)])
        self.assertEqual(tasks.free("ann"), 12)
        self.assertEqual([tasks.put("ann", number) for number in (7, 8, 9)], [1, 4, 6])
        self.assertEqual(tasks.slots("ann"), [(0, 0), (1, 7), (2, 2), (3, 3), (4, 8), (5, 5), (6, 9)])
        tasks.taken_out(0)
        self.assertEqual(tasks.put("ann", 0), 0)

    def test_the_seventeenth(self):
        tasks = of_makers([("ann", ""), ("bob", "")])
        self.assertEqual([tasks.put("ann", 100 + number) for number in range(16)], list(range(16)))
        self.assertEqual(tasks.free("ann"), 0)
        self.refused(tasks, TooMany, tasks.put, "ann", 1)
        self.refused(tasks, TooMany, tasks.put, "ann", 100)
        self.assertEqual(tasks.put("bob", 1), 0)
        tasks.taken_out(109)
        self.assertEqual(tasks.free("ann"), 1)
        self.assertEqual(tasks.put("ann", 1), 9)
        self.refused(tasks, TooMany, tasks.put, "ann", 1)

    def test_at(self):
        tasks = of_makers([("ann", ""), ("bob", "")])
        for number in range(16):
            tasks.put("ann", 200 - number)
        self.assertEqual([tasks.at("ann", slot) for slot in range(16)], [200 - slot for slot in range(16)])
        for slot in range(16):
            self.refused(tasks, NoHandle, tasks.at, "bob", slot)
        for slot in NO_SLOTS:
            self.refused(tasks, NoHandle, tasks.at, "ann", slot)
            self.refused(tasks, NoHandle, tasks.at, "bob", slot)
        tasks.taken_out(197)
        self.refused(tasks, NoHandle, tasks.at, "ann", 3)
        self.assertEqual(tasks.at("ann", 4), 196)

    def test_the_number_nought_fills_a_slot(self):
        tasks = of_makers([("ann", "")])
        self.assertEqual(tasks.put("ann", 0), 0)
        self.assertEqual(tasks.at("ann", 0), 0)
        self.assertEqual(tasks.free("ann"), 15)
        self.assertEqual(tasks.put("ann", 0), 1)
        self.assertEqual(tasks.taken_out(0), 2)

    def test_taken_out_of_several_slots_of_several_tasks(self):
        tasks = of_makers([("ann", ""), ("bob", "ann"), ("cy", "")])
        for name, numbers in (("ann", (5, 1, 5)), ("bob", (1, 1)), ("cy", (2, 5, 3, 5))):
            for number in numbers:
                tasks.put(name, number)
        self.assertEqual(tasks.taken_out(5), 4)
        self.assertEqual(tasks.slots("ann"), [(1, 1)])
        self.assertEqual(tasks.slots("bob"), [(0, 1), (1, 1)])
        self.assertEqual(tasks.slots("cy"), [(0, 2), (2, 3)])
        self.assertEqual(tasks.taken_out(5), 0)
        self.assertEqual(tasks.taken_out(1), 3)
        self.assertEqual(tasks.taken_out(3), 1)
        self.assertEqual([tasks.free(name) for name in ("ann", "bob", "cy")], [16, 16, 15])

    def test_taken_out_of_none(self):
        tasks = of_makers([("ann", ""), ("bob", "")])
        for number in (0, 1, 2):
            tasks.put("ann", number)
        ahead = whole_tasks(tasks)
        for number in (3, -1, 10 ** 30) + NO_NUMBERS:
            self.assertEqual(tasks.taken_out(number), 0)
            self.assertEqual(whole_tasks(tasks), ahead)
        self.assertEqual(Tasks().taken_out(0), 0)

    def test_no_task_ahead_of_all_else(self):
        tasks = of_makers([("ann", ""), ("bob", "")])
        for number in range(16):
            tasks.put("ann", number)
            tasks.put("bob", number)
        tasks.stopped("bob")
        for name in NO_TASKS + ("bob",):
            self.refused(tasks, NoTask, tasks.put, name, 3)
            self.refused(tasks, NoTask, tasks.free, name)
            self.refused(tasks, NoTask, tasks.slots, name)
            for slot in (0, -1, 16, None, []):
                self.refused(tasks, NoTask, tasks.at, name, slot)


class MakersTest(TasksCase):
    def test_made_by(self):
        told = {"a": ["b", "d", "h", "f", "c", "e", "g"], "b": ["d", "h", "f"], "c": ["e"], "d": ["h"], "e": [],
                "f": [], "g": [], "h": [], "x": ["y"], "y": []}
        tasks = family()
        for name, listed in told.items():
            self.assertEqual(tasks.made_by(name), listed)

    def test_stopped(self):
        told = {"a": ["a", "b", "d", "h", "f", "c", "e", "g"], "b": ["b", "d", "h", "f"], "c": ["c", "e"],
                "d": ["d", "h"], "h": ["h"], "x": ["x", "y"], "y": ["y"]}
        for name, listed in told.items():
            tasks = family()
            ahead = tasks.names()
            self.assertEqual(tasks.stopped(name), listed)
            self.assertEqual(tasks.names(), ahead)
            self.assertEqual(tasks.running(), [one for one in ahead if one not in listed])

    def test_an_ended_task_is_none(self):
        tasks = family()
        for name in tasks.running():
            tasks.put(name, 7)
        tasks.stopped("b")
        for name in ("b", "d", "h", "f"):
            for ask in (tasks.stopped, tasks.made_by, tasks.need, tasks.free, tasks.slots):
                self.refused(tasks, NoTask, ask, name)
            self.refused(tasks, NoTask, tasks.put, name, 7)
            self.refused(tasks, NoTask, tasks.at, name, 0)
            self.refused(tasks, NoTask, tasks.added, "new", name)
        self.assertEqual(tasks.made_by("a"), ["c", "e", "g"])

    def test_the_slots_of_an_ended_task_are_empty(self):
        tasks = family()
        for name in tasks.running():
            tasks.put(name, 7)
        tasks.stopped("b")
        # Four of the ten have ended.
        self.assertEqual(tasks.taken_out(7), 6)

    def test_slots_of_those_that_run_stay(self):
        tasks = family()
        for at, name in enumerate(tasks.running()):
            tasks.put(name, at)
            tasks.put(name, 40)
        tasks.stopped("b")
        told = {"a": 0, "c": 2, "x": 3, "e": 5, "g": 7, "y": 8}
        self.assertEqual(tasks.running(), list(told))
        for name, first in told.items():
            self.assertEqual(tasks.slots(name), [(0, first), (1, 40)])
            self.assertEqual(tasks.free(name), 14)

    def test_one_after_another(self):
        tasks = family()
        self.assertEqual(tasks.stopped("d"), ["d", "h"])
        self.assertEqual(tasks.stopped("b"), ["b", "f"])
        tasks.added("i", "g")
        tasks.added("j", "a")
        tasks.added("k", "c")
        self.assertEqual(tasks.made_by("a"), ["c", "e", "k", "g", "i", "j"])
        self.assertEqual(tasks.stopped("a"), ["a", "c", "e", "k", "g", "i", "j"])
        self.assertEqual(tasks.running(), ["x", "y"])
        self.assertEqual(tasks.stopped("x"), ["x", "y"])
        self.assertEqual(tasks.running(), [])

    def test_no_task(self):
        tasks = family()
        for name in NO_TASKS:
            self.refused(tasks, NoTask, tasks.made_by, name)
            self.refused(tasks, NoTask, tasks.stopped, name)

    def test_a_row_of_twelve(self):
        names = ["a"] + list(FULL_NAMES)
        tasks = of_makers(list(zip(names, [""] + names)))
        self.assertEqual(tasks.made_by("a"), list(FULL_NAMES))
        self.assertEqual(tasks.stopped("f"), ["f", "g", "h", "i", "j", "k", "l"])
        self.assertEqual(tasks.stopped("a"), ["a", "b", "c", "d", "e"])


if __name__ == "__main__":
    unittest.main()
