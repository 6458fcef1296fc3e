"""Promises 14 to 18: the kernel, and make, start, narrow and hand."""

import unittest

from kernels import (
    FULL_NAMES, KernelCase, NO_NAMES, NO_RIGHTS, NO_SLOTS, ODD, facts_at, fill_slots, full_of_things, long_chain,
    slots_of, whole, with_tasks,
)
from passkeep.errors import Lacks, NoHandle, NoKind, NoName, NoRights, NoTask, Taken, TooMany
from passkeep.kernel import Kernel, begun, hand, handle_at, make, narrow, need_rights, start
from passkeep.tasks import Tasks
from passkeep.things import Cell, Door, Line, Post
from passkeep.tree import Handle, Tree

NO_TASKS = NO_NAMES + ("zed", "ANN", "ann ")
NO_KINDS = (ODD, "", "Cell", "cell ", " cell", "post", "thing", "cell\n", "cells", None, True, False, 0, 1, 1.5, [],
            ["cell"], (), ("cell",), {}, {"cell": 1}, {"cell"}, b"cell", object(), Cell)


class BegunTest(KernelCase):
    def test_begun(self):
        for name in ("ann", "a", "abcdefgh"):
            kernel = begun(name)
            self.assertIs(type(kernel), Kernel)
            self.assertIs(type(kernel.tree), Tree)
            self.assertIs(type(kernel.tasks), Tasks)
            self.assertEqual(kernel.things, {})
            self.assertIs(type(kernel.things), dict)
            self.assertEqual(kernel.tasks.running(), [name])
            self.assertEqual(kernel.tasks.slots(name), [])
            self.assertEqual(kernel.tree.kept(), [])

    def test_no_name(self):
        for name in NO_NAMES:
            with self.assertRaises(NoName):
                begun(name)

    def test_kernels_keep_to_themselves(self):
        one, other = begun("ann"), begun("ann")
        make(one, "ann", "cell")
        start(one, "ann", "bob")
        self.assertEqual(whole(other), whole(begun("ann")))

    def test_what_tree_and_tasks_do_is_done_there(self):
        kernel = begun("ann")
        make(kernel, "ann", "cell")
        kernel.tasks.added("bob", "ann")
        self.assertEqual(hand(kernel, "ann", 0, "bob"), 0)
        kernel.tree.held(1, "ann")
        self.assertEqual(handle_at(kernel, "bob", 0).holder, "ann")
        kernel.tree.cut(0)
        # The slots still have the numbers, but these handles are not kept.
        self.refused(kernel, NoHandle, narrow, "ann", 0, 1)
        self.refused(kernel, NoHandle, narrow, "bob", 0, 1)
        self.refused(kernel, NoHandle, handle_at, "bob", 0)


class HandleAtTest(KernelCase):
    def test_the_handle_in_a_slot(self):
        kernel = with_tasks(["bob"])
        make(kernel, "ann", "cell")
        hand(kernel, "ann", 1, "bob", 1)
        told = handle_at(kernel, "bob", 0)
        self.assertIs(type(told), Handle)
        self.assertEqual((told.number, told.thing, told.rights, told.giver, told.holder), (2, 1, 1, 1, "bob"))
        ahead = whole(kernel)
        told.rights = 63
        told.holder = "ann"
        self.assertEqual(whole(kernel), ahead)

    def test_refusals(self):
        kernel = with_tasks(["bob"])
        kernel.tasks.added("cy", "")
        kernel.tasks.stopped("cy")
        for task in NO_TASKS + ("cy",):
            self.refused(kernel, NoTask, handle_at, task, 0)
            self.refused(kernel, NoTask, handle_at, task, 99)
        for slot in NO_SLOTS + (1, 15):
            self.refused(kernel, NoHandle, handle_at, "ann", slot)
        self.refused(kernel, NoHandle, handle_at, "bob", 0)

    def test_need_rights(self):
        for rights in range(64):
            for had in range(64):
                lacking = sum(s for s in (1, 2, 4, 8, 16, 32) if rights // s % 2 and not had // s % 2)
                if lacking == 0:
                    self.assertIsNone(need_rights(rights, had))
                    continue
                with self.assertRaises(Lacks) as caught:
                    need_rights(rights, had)
                self.assertEqual(caught.exception.missing, lacking)


class MakeTest(KernelCase):
    def test_make(self):
        kernel = with_tasks([])
        made = (("cell", Cell, 35), ("line", Line, 35), ("door", Door, 45))
        for number, (kind, cls, rights) in enumerate(made):
            self.assertEqual(make(kernel, "ann", kind), number)
            self.assertIs(type(kernel.things[number]), cls)
            self.assertEqual(kernel.things[number].number, number)
            self.assertEqual(facts_at(kernel, "ann", number), (number, number, rights, None, "ann"))
        self.assertEqual(list(kernel.things), [0, 1, 2])
        self.assertEqual([thing.told() for thing in kernel.things.values()], [("cell", 0), ("line",), ("door", 0)])

    def test_each_task_into_its_own_slots(self):
        kernel = with_tasks(["bob"])
        self.assertEqual(make(kernel, "bob", "door"), 0)
        self.assertEqual(make(kernel, "ann", "line"), 1)
        self.assertEqual(facts_at(kernel, "bob", 0), (1, 1, 45, None, "bob"))
        self.assertEqual(facts_at(kernel, "ann", 1), (2, 2, 35, None, "ann"))

    def test_the_lowest_empty_slot(self):
        kernel = begun("ann")
        for _ in range(4):
            make(kernel, "ann", "cell")
        kernel.tasks.taken_out(1)
        self.assertEqual(make(kernel, "ann", "cell"), 1)
        self.assertEqual(make(kernel, "ann", "cell"), 4)

    def test_no_kind(self):
        kernel = begun("ann")
        for kind in NO_KINDS:
            self.refused(kernel, NoKind, make, "ann", kind)

    def test_no_task(self):
        kernel = begun("ann")
        for task in NO_TASKS:
            self.refused(kernel, NoTask, make, task, "cell")

    def test_sixteen_slots(self):
        kernel = begun("ann")
        self.assertEqual([make(kernel, "ann", "cell") for _ in range(16)], list(range(16)))
        self.refused(kernel, TooMany, make, "ann", "cell")
        kernel.tasks.taken_out(7)
        self.assertEqual(make(kernel, "ann", "door"), 7)

    def test_forty_things(self):
        kernel = with_tasks(["bob", "cy"])
        made = 2
        for task, count in (("ann", 14), ("bob", 16), ("cy", 8)):
            for _ in range(count):
                make(kernel, task, "cell")
                self.assertEqual(kernel.things[made].number, made)
                made += 1
        self.assertEqual(len(kernel.things), 40)
        for kind in ("cell", "line", "door"):
            self.refused(kernel, TooMany, make, "cy", kind)

    def test_the_order_of_refusals(self):
        kernel = begun("ann")
        full_of_things(kernel, "ann")
        fill_slots(kernel, "ann")
        self.refused(kernel, NoTask, make, "zed", "post")
        self.refused(kernel, NoKind, make, "ann", "post")
        self.refused(kernel, TooMany, make, "ann", "cell")


class StartTest(KernelCase):
    def test_start(self):
        kernel = begun("ann")
        make(kernel, "ann", "cell")
        self.assertEqual(start(kernel, "ann", "bob"), 1)
        self.assertEqual(start(kernel, "bob", "cy"), 0)
        self.assertEqual(start(kernel, "ann", "dan"), 2)
        self.assertEqual(kernel.tasks.running(), ["ann", "bob", "cy", "dan"])
        self.assertEqual(kernel.tasks.made_by("ann"), ["bob", "cy", "dan"])
        self.assertEqual(kernel.tasks.made_by("bob"), ["cy"])
        for number, name in ((1, "bob"), (2, "cy"), (3, "dan")):
            self.assertIs(type(kernel.things[number]), Post)
            self.assertEqual(kernel.things[number].number, number)
            self.assertEqual(kernel.things[number].told(), ("post", name, True))
        self.assertEqual(facts_at(kernel, "ann", 1), (1, 1, 49, None, "ann"))
        self.assertEqual(facts_at(kernel, "bob", 0), (2, 2, 49, None, "bob"))
        self.assertEqual(facts_at(kernel, "ann", 2), (3, 3, 49, None, "ann"))
        self.assertEqual(slots_of(kernel, "cy"), {})

    def test_no_task_and_no_name(self):
        kernel = begun("ann")
        for name in NO_NAMES:
            self.refused(kernel, NoName, start, "ann", name)
        for task in NO_TASKS + ("bob",):
            self.refused(kernel, NoTask, start, task, "bob")

    def test_taken(self):
        kernel = with_tasks(["bob"])
        kernel.tasks.added("cy", "")
        kernel.tasks.stopped("cy")
        for name in ("ann", "bob", "cy"):
            self.refused(kernel, Taken, start, "ann", name)
            self.refused(kernel, Taken, start, "bob", name)

    def test_twelve_tasks(self):
        kernel = begun("ann")
        for name in FULL_NAMES:
            start(kernel, "ann", name)
        self.refused(kernel, TooMany, start, "ann", "new")
        self.refused(kernel, TooMany, start, "l", "new")
        kernel.tasks.stopped("d")
        self.assertEqual(start(kernel, "l", "new"), 0)
        self.refused(kernel, TooMany, start, "l", "newer")

    def test_forty_things(self):
        kernel = with_tasks(["bob"])
        while len(kernel.things) < 39:
            kernel.tasks.taken_out(kernel.tasks.at("ann", make(kernel, "ann", "line")))
        self.assertEqual(start(kernel, "bob", "cy"), 0)
        self.assertEqual(kernel.things[39].told(), ("post", "cy", True))
        self.refused(kernel, TooMany, start, "bob", "dan")

    def test_sixteen_slots(self):
        kernel = begun("ann")
        fill_slots(kernel, "ann", 1)
        self.assertEqual(start(kernel, "ann", "bob"), 15)
        self.refused(kernel, TooMany, start, "ann", "cy")
        self.assertEqual(start(kernel, "bob", "cy"), 0)

    def test_the_order_of_refusals(self):
        slots, things, tasks = begun("ann"), begun("ann"), begun("ann")
        fill_slots(slots, "ann")
        full_of_things(things, "ann")
        for name in FULL_NAMES:
            tasks.tasks.added(name, "ann")
        every = begun("ann")
        full_of_things(every, "ann")
        fill_slots(every, "ann")
        for name in FULL_NAMES:
            every.tasks.added(name, "ann")
        for kernel in (slots, things, tasks, every):
            self.refused(kernel, NoTask, start, "zed", "A")
            self.refused(kernel, NoTask, start, None, "ann")
            self.refused(kernel, NoName, start, "ann", "A")
            self.refused(kernel, Taken, start, "ann", "ann")
            self.refused(kernel, TooMany, start, "ann", "new")


class NarrowTest(KernelCase):
    def test_narrow(self):
        kernel = begun("ann")
        make(kernel, "ann", "door")
        make(kernel, "ann", "cell")
        self.assertEqual(narrow(kernel, "ann", 1, 3), 2)
        self.assertEqual(facts_at(kernel, "ann", 2), (2, 1, 3, 1, "ann"))
        # Pass is not needed for this.
        self.assertEqual(narrow(kernel, "ann", 2, 2), 3)
        self.assertEqual(facts_at(kernel, "ann", 3), (3, 1, 2, 2, "ann"))
        self.assertEqual(narrow(kernel, "ann", 0, 45), 4)
        self.assertEqual(facts_at(kernel, "ann", 4), (4, 0, 45, 0, "ann"))
        self.assertEqual(narrow(kernel, "ann", 3, 0), 5)
        self.assertEqual(facts_at(kernel, "ann", 5), (5, 1, 0, 3, "ann"))
        self.assertEqual(facts_at(kernel, "ann", 1), (1, 1, 35, None, "ann"))

    def test_no_task_and_no_handle(self):
        kernel = with_tasks(["bob"])
        for task in NO_TASKS:
            self.refused(kernel, NoTask, narrow, task, 0, 1)
        for slot in NO_SLOTS + (1, 15):
            self.refused(kernel, NoHandle, narrow, "ann", slot, 1)
        self.refused(kernel, NoHandle, narrow, "bob", 0, 1)

    def test_no_rights(self):
        kernel = begun("ann")
        make(kernel, "ann", "cell")
        for rights in NO_RIGHTS + (None,):
            self.refused(kernel, NoRights, narrow, "ann", 0, rights)

    def test_lacks_just_what_is_missing(self):
        kernel = begun("ann")
        make(kernel, "ann", "cell")
        narrow(kernel, "ann", 0, 1)
        for slot, had in ((0, 35), (1, 1)):
            for rights in range(64):
                if rights & ~had:
                    self.lacks(kernel, rights & ~had, narrow, "ann", slot, rights)

    def test_sixteen_slots(self):
        kernel = begun("ann")
        make(kernel, "ann", "cell")
        fill_slots(kernel, "ann", 1)
        self.assertEqual(narrow(kernel, "ann", 0, 1), 15)
        self.refused(kernel, TooMany, narrow, "ann", 0, 1)

    def test_a_chain_of_forty(self):
        kernel = begun("ann")
        make(kernel, "ann", "cell")
        slot = long_chain(kernel, "ann", 0, 39)
        last = narrow(kernel, "ann", slot, 35)
        self.assertEqual(len(kernel.tree.chain(kernel.tasks.at("ann", last))), 40)
        self.refused(kernel, TooMany, narrow, "ann", last, 35)
        self.refused(kernel, TooMany, narrow, "ann", last, 0)
        narrow(kernel, "ann", slot, 1)

    def test_the_order_of_refusals(self):
        kernel = begun("ann")
        make(kernel, "ann", "cell")
        slot = long_chain(kernel, "ann", 0, 40)
        for left in (5, 0):
            fill_slots(kernel, "ann", left)
            self.refused(kernel, NoTask, narrow, "zed", 99, 99)
            self.refused(kernel, NoHandle, narrow, "ann", 99, 99)
            self.refused(kernel, NoRights, narrow, "ann", slot, 127)
            self.lacks(kernel, 4, narrow, "ann", slot, 7)
            self.refused(kernel, TooMany, narrow, "ann", slot, 3)


class HandTest(KernelCase):
    def test_hand(self):
        kernel = with_tasks(["bob", "cy"])
        make(kernel, "ann", "cell")
        self.assertEqual(hand(kernel, "ann", 2, "bob", 33), 0)
        self.assertEqual(facts_at(kernel, "bob", 0), (3, 2, 33, 2, "bob"))
        self.assertEqual(hand(kernel, "bob", 0, "cy", 1), 0)
        self.assertEqual(facts_at(kernel, "cy", 0), (4, 2, 1, 3, "cy"))
        self.assertEqual(hand(kernel, "bob", 0, "cy", 0), 1)
        self.assertEqual(facts_at(kernel, "cy", 1), (5, 2, 0, 3, "cy"))
        self.assertEqual(hand(kernel, "ann", 0, "cy", 16), 2)
        self.assertEqual(facts_at(kernel, "cy", 2), (6, 0, 16, 0, "cy"))
        self.assertEqual(len(kernel.tasks.slots("ann")), 3)

    def test_rights_left_out(self):
        kernel = with_tasks(["bob"])
        make(kernel, "ann", "door")
        self.assertEqual(hand(kernel, "ann", 1, "bob"), 0)
        self.assertEqual(hand(kernel, "ann", 1, "bob", None), 1)
        self.assertEqual(facts_at(kernel, "bob", 0), (2, 1, 45, 1, "bob"))
        self.assertEqual(facts_at(kernel, "bob", 1), (3, 1, 45, 1, "bob"))
        narrow(kernel, "bob", 0, 36)
        self.assertEqual(hand(kernel, "bob", 2, "ann"), 2)
        self.assertEqual(facts_at(kernel, "ann", 2), (5, 1, 36, 4, "ann"))

    def test_to_the_same_task(self):
        kernel = begun("ann")
        make(kernel, "ann", "cell")
        self.assertEqual(hand(kernel, "ann", 0, "ann", 34), 1)
        self.assertEqual(facts_at(kernel, "ann", 1), (1, 0, 34, 0, "ann"))
        self.assertEqual(hand(kernel, "ann", 1, "ann"), 2)
        self.assertEqual(facts_at(kernel, "ann", 2), (2, 0, 34, 1, "ann"))

    def test_back_to_the_giver(self):
        kernel = with_tasks(["bob"])
        hand(kernel, "ann", 0, "bob")
        self.assertEqual(hand(kernel, "bob", 0, "ann"), 1)
        self.assertEqual(facts_at(kernel, "ann", 1), (2, 0, 49, 1, "ann"))

    def test_no_task_and_no_handle(self):
        kernel = with_tasks(["bob"])
        kernel.tasks.added("cy", "")
        kernel.tasks.stopped("cy")
        for task in NO_TASKS + ("cy",):
            self.refused(kernel, NoTask, hand, task, 0, "bob")
            self.refused(kernel, NoTask, hand, "ann", 0, task)
        for slot in NO_SLOTS + (1, 15):
            self.refused(kernel, NoHandle, hand, "ann", slot, "bob")

    def test_no_rights(self):
        kernel = with_tasks(["bob"])
        for rights in NO_RIGHTS:
            self.refused(kernel, NoRights, hand, "ann", 0, "bob", rights)

    def test_lacks_pass_and_the_rights(self):
        kernel = with_tasks(["bob"])
        make(kernel, "ann", "cell")
        narrow(kernel, "ann", 1, 1)
        for slot, had in ((0, 49), (1, 35), (2, 1)):
            for rights in range(64):
                lacking = (rights | 32) & ~had
                if lacking:
                    self.lacks(kernel, lacking, hand, "ann", slot, "bob", rights)
        self.lacks(kernel, 32, hand, "ann", 2, "bob")
        self.lacks(kernel, 32, hand, "ann", 2, "bob", None)
        self.lacks(kernel, 32, hand, "ann", 2, "ann", 0)

    def test_the_slots_of_the_other(self):
        kernel = with_tasks(["bob"])
        fill_slots(kernel, "ann")
        fill_slots(kernel, "bob", 1)
        self.assertEqual(hand(kernel, "ann", 0, "bob"), 15)
        self.refused(kernel, TooMany, hand, "ann", 0, "bob")
        self.refused(kernel, TooMany, hand, "ann", 0, "ann")

    def test_a_chain_of_forty(self):
        kernel = with_tasks(["bob"])
        slot = long_chain(kernel, "ann", 0, 39)
        self.assertEqual(hand(kernel, "ann", slot, "bob"), 0)
        self.assertEqual(len(kernel.tree.chain(kernel.tasks.at("bob", 0))), 40)
        self.refused(kernel, TooMany, hand, "bob", 0, "ann")
        self.refused(kernel, TooMany, hand, "bob", 0, "bob", 0)

    def test_the_order_of_refusals(self):
        kernel = with_tasks(["bob"])
        make(kernel, "ann", "cell")
        slot = long_chain(kernel, "ann", 1, 39)
        lowest = narrow(kernel, "ann", slot, 3)
        for left in (5, 0):
            fill_slots(kernel, "bob", left)
            self.refused(kernel, NoTask, hand, "zed", 99, "zed", 99)
            self.refused(kernel, NoHandle, hand, "ann", 99, "zed", 99)
            self.refused(kernel, NoTask, hand, "ann", lowest, "zed", 99)
            self.refused(kernel, NoRights, hand, "ann", lowest, "bob", 99)
            self.lacks(kernel, 36, hand, "ann", lowest, "bob", 7)
            self.lacks(kernel, 32, hand, "ann", lowest, "bob")
        self.refused(kernel, TooMany, hand, "ann", slot, "bob")
        self.lacks(kernel, 4, hand, "ann", slot, "bob", 4)


if __name__ == "__main__":
    unittest.main()
