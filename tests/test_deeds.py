"""Promises 19 and 20: call_back, give_up and do, the end of tasks among it."""

import unittest

from kernels import (
    KernelCase, NO_NAMES, NO_SLOTS, NO_VALUES, ODD, facts_at, number_at, slots_of, whole, with_tasks,
)
from passkeep.deeds import call_back, do, give_up
from passkeep.errors import Empty, Full, NoHandle, NoTask, NoValue, Taken, TooGreat, TooMany
from passkeep.kernel import begun, hand, make, narrow, start
from passkeep.letters import hear, send

NO_TASKS = NO_NAMES + ("zed", "ANN", "ann ")
NO_DEEDS = (ODD, "", "fly", "Read", "read ", "kind\n", None, True, False, 0, 1, 1.5, [], ["read"], (), ("read",), {},
            {"read"}, b"read", object(), str)
TOP = 10 ** 12


# ann's cell 3 is in her slot 3; bob has 4 right below, cy 5 below that and 7 below 4 too, dan 6 below 5, bob 8 below 3.
def handed_about():
    kernel = with_tasks(["bob", "cy", "dan"])
    make(kernel, "ann", "cell")
    hand(kernel, "ann", 3, "bob")
    hand(kernel, "bob", 0, "cy")
    hand(kernel, "cy", 0, "dan")
    hand(kernel, "bob", 0, "cy", 1)
    hand(kernel, "ann", 3, "bob", 1)
    return kernel


class CallBackTest(KernelCase):
    def test_all_below_go_and_it_stays(self):
        kernel = handed_about()
        self.assertEqual(call_back(kernel, "ann", 3), 5)
        self.assertEqual(kernel.tree.kept(), [0, 1, 2, 3])
        self.assertEqual(slots_of(kernel, "ann"), {0: 0, 1: 1, 2: 2, 3: 3})
        for task in ("bob", "cy", "dan"):
            self.assertEqual(slots_of(kernel, task), {})
        self.assertEqual(call_back(kernel, "ann", 3), 0)
        self.assertEqual(do(kernel, "ann", 3, "read"), 0)

    def test_from_the_middle(self):
        kernel = handed_about()
        self.assertEqual(call_back(kernel, "bob", 0), 3)
        self.assertEqual(kernel.tree.kept(), [0, 1, 2, 3, 4, 8])
        self.assertEqual(slots_of(kernel, "bob"), {0: 4, 1: 8})
        self.assertEqual(slots_of(kernel, "cy"), {})
        self.assertEqual(slots_of(kernel, "dan"), {})
        self.refused(kernel, NoHandle, do, "cy", 0, "read")
        self.refused(kernel, NoHandle, do, "dan", 0, "read")

    def test_none_below(self):
        kernel = handed_about()
        ahead = whole(kernel)
        self.assertEqual(call_back(kernel, "dan", 0), 0)
        self.assertEqual(whole(kernel), ahead)

    def test_gone_at_once(self):
        kernel = handed_about()
        self.assertEqual(do(kernel, "dan", 0, "write", 5), 0)
        call_back(kernel, "ann", 3)
        self.refused(kernel, NoHandle, do, "dan", 0, "write", 6)
        self.assertEqual(do(kernel, "ann", 3, "read"), 5)

    def test_out_of_all_slots(self):
        kernel = handed_about()
        kernel.tasks.put("ann", 5)
        kernel.tasks.put("bob", 5)
        self.assertEqual(call_back(kernel, "bob", 0), 3)
        self.assertEqual(slots_of(kernel, "ann"), {0: 0, 1: 1, 2: 2, 3: 3})
        self.assertEqual(slots_of(kernel, "bob"), {0: 4, 1: 8})

    def test_other_things_stay(self):
        kernel = handed_about()
        hand(kernel, "ann", 1, "dan")
        call_back(kernel, "ann", 3)
        self.assertEqual(slots_of(kernel, "dan"), {1: 9})
        self.assertEqual(len(kernel.things), 4)

    def test_what_waits_in_a_letter_goes_too(self):
        kernel = handed_about()
        make(kernel, "bob", "door")
        send(kernel, "bob", 2, "", (0, 0))
        self.assertEqual(call_back(kernel, "ann", 3), 7)
        self.assertEqual(kernel.things[4].letters()[0].parts, (10, 11))
        self.assertEqual(hear(kernel, "bob", 2), ("", [None, None]))

    def test_the_bottom_of_a_long_chain(self):
        kernel = begun("ann")
        make(kernel, "ann", "cell")
        for slot in range(15):
            hand(kernel, "ann", slot, "ann")
        self.assertEqual(call_back(kernel, "ann", 5), 10)
        self.assertEqual(slots_of(kernel, "ann"), {slot: slot for slot in range(6)})
        self.assertEqual(call_back(kernel, "ann", 0), 5)
        self.assertEqual(kernel.tree.kept(), [0])


class GiveUpTest(KernelCase):
    def test_it_goes_too(self):
        kernel = handed_about()
        self.assertEqual(give_up(kernel, "bob", 0), 4)
        self.assertEqual(kernel.tree.kept(), [0, 1, 2, 3, 8])
        self.assertEqual(slots_of(kernel, "bob"), {1: 8})
        self.assertEqual(slots_of(kernel, "cy"), {})
        self.assertEqual(slots_of(kernel, "dan"), {})
        self.refused(kernel, NoHandle, give_up, "bob", 0)

    def test_one_alone(self):
        kernel = handed_about()
        self.assertEqual(give_up(kernel, "dan", 0), 1)
        self.assertEqual(kernel.tree.kept(), [0, 1, 2, 3, 4, 5, 7, 8])
        self.assertEqual(slots_of(kernel, "cy"), {0: 5, 1: 7})

    def test_all_of_a_thing(self):
        kernel = handed_about()
        self.assertEqual(give_up(kernel, "ann", 3), 6)
        self.assertEqual(kernel.tree.kept(), [0, 1, 2])
        self.assertEqual(len(kernel.things), 4)
        self.assertEqual(make(kernel, "ann", "cell"), 3)
        self.assertEqual(facts_at(kernel, "ann", 3), (9, 4, 35, None, "ann"))

    def test_refusals_of_both(self):
        kernel = handed_about()
        kernel.tasks.added("eve", "")
        kernel.tasks.stopped("eve")
        for ask in (call_back, give_up):
            for task in NO_TASKS + ("eve",):
                self.refused(kernel, NoTask, ask, task, 0)
                self.refused(kernel, NoTask, ask, task, 99)
            for slot in NO_SLOTS + (4, 15):
                self.refused(kernel, NoHandle, ask, "ann", slot)


class DoTest(KernelCase):
    def test_each_deed(self):
        kernel = with_tasks(["bob"])
        for kind in ("cell", "line", "door"):
            make(kernel, "ann", kind)
        rows = (
            (0, "kind", 0, "post"), (0, "state", 0, "runs"), (1, "kind", 9, "cell"), (1, "write", 7, 0),
            (1, "read", 0, 7), (1, "add", -9, -2), (2, "kind", 0, "line"), (2, "push", 4, 1), (2, "push", 5, 2),
            (2, "count", 0, 2), (2, "pull", 0, 4), (3, "kind", 0, "door"), (3, "count", 0, 0),
        )
        for slot, deed, value, answer in rows:
            self.assertEqual(do(kernel, "ann", slot, deed, value), answer)
        self.assertEqual([thing.told() for thing in kernel.things.values()],
                         [("post", "bob", True), ("cell", -2), ("line", 5), ("door", 0)])

    def test_the_value_left_out(self):
        kernel = begun("ann")
        make(kernel, "ann", "cell")
        do(kernel, "ann", 0, "write", 8)
        self.assertEqual(do(kernel, "ann", 0, "add"), 8)
        self.assertEqual(do(kernel, "ann", 0, "write"), 8)
        self.assertEqual(do(kernel, "ann", 0, "read"), 0)

    def test_it_is_one_thing_to_all(self):
        kernel = handed_about()
        do(kernel, "ann", 3, "write", 4)
        self.assertEqual(do(kernel, "dan", 0, "add", 3), 7)
        self.assertEqual(do(kernel, "cy", 1, "read"), 7)

    def test_no_task_and_no_handle(self):
        kernel = handed_about()
        for task in NO_TASKS:
            self.refused(kernel, NoTask, do, task, 0, "kind")
        for slot in NO_SLOTS + (4, 15):
            self.refused(kernel, NoHandle, do, "ann", slot, "kind")

    def test_no_deed(self):
        kernel = with_tasks(["bob"])
        for kind in ("cell", "line", "door"):
            make(kernel, "ann", kind)
        others = (("read", "push", "send", "hear"), ("push", "state", "count", "end"), ("read", "end", "send"),
                  ("read", "pull", "end"))
        for slot, deeds in enumerate(others):
            for deed in deeds + NO_DEEDS:
                self.no_deed(kernel, deed, do, "ann", slot, deed)

    def test_send_and_hear_of_a_door_are_none(self):
        kernel = begun("ann")
        make(kernel, "ann", "door")
        send(kernel, "ann", 0, "hi")
        narrow(kernel, "ann", 0, 0)
        for deed in ("send", "hear"):
            for slot in (0, 1):
                for value in (0, 5, TOP + 1, None):
                    self.no_deed(kernel, deed, do, "ann", slot, deed, value)

    def test_no_value_whatever_the_deed(self):
        kernel = with_tasks(["bob"])
        for kind in ("cell", "line", "door"):
            make(kernel, "ann", kind)
        deeds = (("kind", "state", "end"), ("kind", "read", "write", "add"), ("kind", "push", "pull", "count"),
                 ("kind", "count"))
        for slot, some in enumerate(deeds):
            for deed in some:
                for value in NO_VALUES:
                    self.refused(kernel, NoValue, do, "ann", slot, deed, value)

    def test_values_at_their_bounds(self):
        kernel = begun("ann")
        make(kernel, "ann", "cell")
        self.assertEqual(do(kernel, "ann", 0, "write", TOP), 0)
        self.assertEqual(do(kernel, "ann", 0, "write", -TOP), TOP)
        self.refused(kernel, TooGreat, do, "ann", 0, "add", -1)
        self.assertEqual(do(kernel, "ann", 0, "add", TOP), 0)

    def test_lacks_what_the_deed_needs(self):
        kernel = with_tasks(["bob"])
        for kind in ("cell", "line", "door"):
            make(kernel, "ann", kind)
        needs = (
            {"kind": 0, "state": 1, "end": 16}, {"kind": 0, "read": 1, "write": 2, "add": 3},
            {"kind": 0, "push": 2, "pull": 3, "count": 1}, {"kind": 0, "count": 1},
        )
        for slot, deeds in enumerate(needs):
            for rights in range(64):
                if rights & ~facts_at(kernel, "ann", slot)[2]:
                    continue
                lower = narrow(kernel, "ann", slot, rights)
                for deed, needed in deeds.items():
                    if needed & ~rights:
                        self.lacks(kernel, needed & ~rights, do, "ann", lower, deed)
                self.assertEqual(do(kernel, "ann", lower, "kind"), kernel.things[slot].kind())
                give_up(kernel, "ann", lower)

    def test_what_did_refuses(self):
        kernel = begun("ann")
        make(kernel, "ann", "line")
        self.refused(kernel, Empty, do, "ann", 0, "pull")
        for value in range(9):
            do(kernel, "ann", 0, "push", value)
        self.refused(kernel, Full, do, "ann", 0, "push", 9)

    def test_the_order_of_refusals(self):
        kernel = begun("ann")
        make(kernel, "ann", "line")
        make(kernel, "ann", "cell")
        do(kernel, "ann", 1, "write", TOP)
        narrow(kernel, "ann", 0, 1)
        narrow(kernel, "ann", 1, 1)
        self.refused(kernel, NoTask, do, "zed", 99, "fly", None)
        self.refused(kernel, NoHandle, do, "ann", 99, "fly", None)
        self.no_deed(kernel, "fly", do, "ann", 2, "fly", None)
        self.refused(kernel, NoValue, do, "ann", 2, "pull", None)
        self.lacks(kernel, 2, do, "ann", 2, "pull", 0)
        self.refused(kernel, Empty, do, "ann", 0, "pull", 0)
        self.refused(kernel, NoValue, do, "ann", 3, "add", TOP + 1)
        self.lacks(kernel, 2, do, "ann", 3, "add", 1)
        self.refused(kernel, TooGreat, do, "ann", 1, "add", 1)


# ann made bob (post 0) and eve (post 1); bob made cy (post 2), cy made dan (post 3).
def with_family():
    kernel = with_tasks(["bob", "eve"])
    start(kernel, "bob", "cy")
    start(kernel, "cy", "dan")
    return kernel


class EndTest(KernelCase):
    def runs(self, kernel):
        return {thing.told()[1]: thing.told()[2] for thing in kernel.things.values() if thing.kind() == "post"}

    def test_one_task(self):
        kernel = with_tasks(["bob", "eve"])
        self.assertEqual(do(kernel, "ann", 0, "end"), 1)
        self.assertEqual(kernel.tasks.running(), ["ann", "eve"])
        self.assertEqual(kernel.tasks.names(), ["ann", "bob", "eve"])
        self.assertEqual(self.runs(kernel), {"bob": False, "eve": True})
        self.assertEqual(slots_of(kernel, "ann"), {1: 1})
        self.assertEqual(kernel.tree.kept(), [1])

    def test_all_that_it_made(self):
        kernel = with_family()
        self.assertEqual(do(kernel, "ann", 0, "end"), 3)
        self.assertEqual(kernel.tasks.running(), ["ann", "eve"])
        self.assertEqual(self.runs(kernel), {"bob": False, "eve": True, "cy": False, "dan": False})
        self.assertEqual(kernel.tree.kept(), [1])
        self.assertEqual(slots_of(kernel, "ann"), {1: 1})
        for name in ("bob", "cy", "dan"):
            self.refused(kernel, Taken, start, "ann", name)

    def test_the_maker_of_the_one_that_ends_stays(self):
        kernel = with_family()
        self.assertEqual(do(kernel, "bob", 0, "end"), 2)
        self.assertEqual(kernel.tasks.running(), ["ann", "bob", "eve"])
        self.assertEqual(self.runs(kernel), {"bob": True, "eve": True, "cy": False, "dan": False})
        self.assertEqual(kernel.tree.kept(), [0, 1])
        self.assertEqual(slots_of(kernel, "bob"), {})

    def test_handles_in_their_slots_go_with_all_below(self):
        kernel = with_family()
        make(kernel, "dan", "cell")
        hand(kernel, "dan", 0, "eve")
        hand(kernel, "eve", 0, "ann")
        make(kernel, "ann", "cell")
        hand(kernel, "ann", 3, "cy")
        hand(kernel, "cy", 1, "eve")
        hand(kernel, "ann", 3, "eve", 1)
        self.assertEqual(do(kernel, "ann", 0, "end"), 3)
        # ann keeps her cell, and eve what came to her from ann straight.
        self.assertEqual(slots_of(kernel, "ann"), {1: 1, 3: 7})
        self.assertEqual(slots_of(kernel, "eve"), {2: 10})
        self.assertEqual(kernel.tree.kept(), [1, 7, 10])
        self.assertEqual(do(kernel, "eve", 2, "read"), 0)
        self.refused(kernel, NoHandle, do, "eve", 0, "read")

    def test_all_handles_to_their_posts_go(self):
        kernel = with_family()
        # The posts of bob, cy and dan are known to eve, and eve's to dan.
        hand(kernel, "ann", 0, "eve", 1)
        hand(kernel, "bob", 0, "eve")
        hand(kernel, "cy", 0, "eve", 33)
        narrow(kernel, "eve", 1, 16)
        hand(kernel, "ann", 1, "dan")
        self.assertEqual(do(kernel, "eve", 3, "end"), 2)
        self.assertEqual(kernel.tasks.running(), ["ann", "bob", "eve"])
        self.assertEqual(slots_of(kernel, "eve"), {0: 4})
        self.assertEqual(slots_of(kernel, "ann"), {0: 0, 1: 1})
        self.assertEqual(kernel.tree.kept(), [0, 1, 4])

    def test_where_the_task_that_acts_is_among_them(self):
        kernel = with_family()
        hand(kernel, "ann", 0, "dan", 16)
        self.assertEqual(do(kernel, "dan", 0, "end"), 3)
        self.assertEqual(kernel.tasks.running(), ["ann", "eve"])
        self.assertEqual(self.runs(kernel), {"bob": False, "eve": True, "cy": False, "dan": False})
        self.assertEqual(kernel.tree.kept(), [1])
        self.refused(kernel, NoTask, do, "dan", 0, "end")

    def test_a_task_ends_itself(self):
        kernel = with_tasks(["bob"])
        hand(kernel, "ann", 0, "bob", 16)
        self.assertEqual(do(kernel, "bob", 0, "end"), 1)
        self.assertEqual(kernel.tasks.running(), ["ann"])
        self.assertEqual(kernel.tree.kept(), [])

    def test_handles_in_letters(self):
        kernel = with_family()
        make(kernel, "ann", "door")
        hand(kernel, "ann", 2, "cy")
        make(kernel, "cy", "cell")
        make(kernel, "ann", "cell")
        send(kernel, "cy", 1, "from cy", (2,))
        send(kernel, "ann", 2, "from ann", (0, 1, 3))
        self.assertEqual(do(kernel, "ann", 0, "end"), 3)
        self.assertEqual(kernel.things[4].told(), ("door", 2))
        self.assertEqual(hear(kernel, "ann", 2), ("from cy", [None]))
        self.assertEqual(hear(kernel, "ann", 2), ("from ann", [None, 0, 4]))

    def test_end_once_more(self):
        kernel = with_tasks(["bob"])
        hand(kernel, "ann", 0, "ann")
        self.assertEqual(do(kernel, "ann", 0, "end"), 1)
        self.refused(kernel, NoHandle, do, "ann", 0, "end")
        self.refused(kernel, NoHandle, do, "ann", 1, "end")
        # By a handle that the tree's own methods make anew: no task ends, and it goes as those ahead did.
        kernel.tasks.put("ann", kernel.tree.rooted(0, 49, "ann"))
        self.assertEqual(do(kernel, "ann", 0, "state"), "ended")
        self.assertEqual(do(kernel, "ann", 0, "end"), 0)
        self.assertEqual(self.runs(kernel), {"bob": False})
        self.assertEqual(kernel.tree.kept(), [])
        self.assertEqual(slots_of(kernel, "ann"), {})

    def test_end_of_a_task_that_tasks_stopped(self):
        kernel = with_tasks(["bob", "eve"])
        kernel.tasks.stopped("bob")
        self.assertEqual(do(kernel, "ann", 0, "end"), 0)
        self.assertEqual(self.runs(kernel), {"bob": False, "eve": True})
        self.assertEqual(slots_of(kernel, "ann"), {1: 1})

    def test_the_state_of_a_post_says_nothing_of_its_task(self):
        kernel = with_tasks(["bob"])
        kernel.things[0].did("end", 0)
        self.assertEqual(do(kernel, "ann", 0, "end"), 1)
        self.assertEqual(kernel.tasks.running(), ["ann"])

    def test_one_end_behind_another(self):
        kernel = with_family()
        hand(kernel, "bob", 0, "ann", 16)
        self.assertEqual(do(kernel, "ann", 2, "end"), 2)
        self.assertEqual(do(kernel, "ann", 0, "end"), 1)
        self.assertEqual(do(kernel, "ann", 1, "end"), 1)
        self.assertEqual(kernel.tasks.running(), ["ann"])
        self.assertEqual(kernel.tree.kept(), [])

    def test_a_number_in_a_slot_that_is_not_kept(self):
        kernel = with_tasks(["bob"])
        make(kernel, "bob", "cell")
        kernel.tree.cut(1)
        self.assertEqual(do(kernel, "ann", 0, "end"), 1)
        self.assertEqual(kernel.tree.kept(), [])

    def test_things_stay_and_count(self):
        kernel = with_tasks(["bob"])
        while len(kernel.things) < 16:
            make(kernel, "bob", "cell")
        told = [thing.told() for thing in kernel.things.values()]
        self.assertEqual(do(kernel, "ann", 0, "end"), 1)
        told[0] = ("post", "bob", False)
        self.assertEqual([thing.told() for thing in kernel.things.values()], told)
        for _ in range(16):
            make(kernel, "ann", "line")
        self.assertEqual(number_at(kernel, "ann", 0), 16)
        self.assertEqual(facts_at(kernel, "ann", 0)[1], 16)
        for slot in range(8):
            give_up(kernel, "ann", slot)
            make(kernel, "ann", "cell")
        give_up(kernel, "ann", 0)
        self.refused(kernel, TooMany, make, "ann", "cell")
        self.refused(kernel, TooMany, start, "ann", "cy")

    def test_once_a_task_has_ended_one_more_may_start(self):
        kernel = with_tasks(list("bcdefghijkl"))
        self.refused(kernel, TooMany, start, "ann", "new")
        self.assertEqual(do(kernel, "ann", 4, "end"), 1)
        self.assertEqual(start(kernel, "ann", "new"), 4)
        self.refused(kernel, TooMany, start, "ann", "newer")

    def test_refusals_of_end(self):
        kernel = with_family()
        narrow(kernel, "ann", 0, 33)
        self.lacks(kernel, 16, do, "ann", 2, "end")
        self.refused(kernel, NoValue, do, "ann", 0, "end", TOP + 1)
        self.refused(kernel, NoValue, do, "ann", 2, "end", True)
        self.assertEqual(do(kernel, "ann", 0, "end", -TOP), 3)


if __name__ == "__main__":
    unittest.main()
