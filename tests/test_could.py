"""Promise 25: what a task might come to have, if some do nothing more."""

import unittest

from kernels import KernelCase, NO_NAMES, NO_NUMBERS, ODD, fill_slots, whole, with_tasks
from passkeep.book import can, could
from passkeep.deeds import call_back, do, give_up
from passkeep.errors import NoTask, NoThing
from passkeep.kernel import begun, hand, make, narrow, start
from passkeep.letters import hear, send

NO_TASKS = NO_NAMES + ("zed", "ANN", "ann ")
CELL = 2


# Posts of bob (thing 0) and cid (1), a cell (2) and doors (3, 4, 5), in ann's slots of these numbers.
def with_doors():
    kernel = with_tasks(["bob", "cid"])
    for kind in ("cell", "door", "door", "door"):
        make(kernel, "ann", kind)
    return kernel


class HandedOnTest(KernelCase):
    def test_all_act(self):
        kernel = with_doors()
        for name in ("ann", "bob", "cid"):
            self.assertEqual([could(kernel, name, thing) for thing in range(6)], [49, 49, 35, 45, 45, 45])

    def test_one_that_is_still_hands_nothing_on(self):
        kernel = with_doors()
        self.assertEqual(could(kernel, "ann", CELL, ["ann"]), 35)
        self.assertEqual(could(kernel, "bob", CELL, ["ann"]), 0)
        self.assertEqual(could(kernel, "bob", CELL, ["ann", "bob", "cid"]), 0)
        self.assertEqual(could(kernel, "ann", CELL, ["ann", "bob", "cid"]), 35)

    def test_one_that_is_still_may_be_given_something(self):
        kernel = with_doors()
        self.assertEqual(could(kernel, "bob", CELL, ["bob"]), 35)
        self.assertEqual(could(kernel, "bob", CELL, ["bob", "cid"]), 35)

    def test_nothing_is_handed_on_without_pass(self):
        kernel = with_doors()
        hand(kernel, "ann", 2, "bob", 3)
        self.assertEqual(could(kernel, "bob", CELL, ["ann"]), 3)
        self.assertEqual(could(kernel, "bob", CELL, ["ann", "bob"]), 3)
        self.assertEqual(could(kernel, "cid", CELL, ["ann"]), 0)

    def test_with_pass_all_rights_of_that_handle_are(self):
        kernel = with_doors()
        hand(kernel, "ann", 2, "bob", 33)
        hand(kernel, "ann", 2, "bob", 2)
        self.assertEqual(could(kernel, "bob", CELL, ["ann"]), 35)
        self.assertEqual(could(kernel, "cid", CELL, ["ann"]), 33)
        self.assertEqual(could(kernel, "cid", CELL, ["ann", "cid"]), 33)
        self.assertEqual(could(kernel, "cid", CELL, ["ann", "bob"]), 0)
        # The other handle's rights are passed on where it has pass itself.
        hand(kernel, "ann", 2, "bob", 34)
        self.assertEqual(could(kernel, "cid", CELL, ["ann"]), 35)

    def test_pass_alone(self):
        kernel = with_doors()
        hand(kernel, "ann", 2, "bob", 32)
        self.assertEqual(could(kernel, "cid", CELL, ["ann"]), 32)

    def test_pass_on_one_thing_passes_no_other(self):
        kernel = with_doors()
        hand(kernel, "ann", 3, "bob", 33)
        hand(kernel, "ann", 2, "bob", 1)
        self.assertEqual([could(kernel, "cid", thing, ["ann"]) for thing in range(6)], [0, 0, 0, 33, 0, 0])

    def test_several_add_up(self):
        kernel = with_doors()
        hand(kernel, "ann", 3, "bob", 33)
        hand(kernel, "ann", 3, "cid", 36)
        self.assertEqual(could(kernel, "bob", 3, ["ann"]), 37)
        self.assertEqual(could(kernel, "cid", 3, ["ann"]), 37)
        self.assertEqual(could(kernel, "cid", 3, ["ann", "bob"]), 36)
        self.assertEqual(could(kernel, "cid", 3, ["ann", "cid"]), 37)
        self.assertEqual(could(kernel, "cid", 3, ["bob", "cid"]), 45)

    def test_behind_other_deeds(self):
        kernel = with_doors()
        narrow(kernel, "ann", 2, 1)
        hand(kernel, "ann", 2, "bob")
        self.assertEqual(could(kernel, "cid", CELL, ["ann"]), 35)
        call_back(kernel, "ann", 2)
        self.assertEqual(could(kernel, "cid", CELL, ["ann"]), 0)
        hand(kernel, "ann", 2, "bob")
        give_up(kernel, "bob", 0)
        self.assertEqual(could(kernel, "cid", CELL, ["ann"]), 0)
        give_up(kernel, "ann", 2)
        self.assertEqual(could(kernel, "ann", CELL), 0)

    def test_handles_that_are_not_kept_count_no_more(self):
        kernel = with_doors()
        fill_slots(kernel, "bob")
        kernel.tree.cut(2)
        self.assertEqual(could(kernel, "bob", CELL), 0)
        self.assertEqual(could(kernel, "ann", CELL), 0)


class LettersTest(KernelCase):
    def test_one_that_acts_hears_what_waits(self):
        kernel = with_doors()
        hand(kernel, "ann", 3, "bob", 8)
        send(kernel, "ann", 3, "", (2,), 3)
        self.assertEqual(could(kernel, "bob", CELL, ["ann"]), 3)
        self.assertEqual(could(kernel, "cid", CELL, ["ann"]), 0)

    def test_one_that_is_still_hears_nothing(self):
        kernel = with_doors()
        hand(kernel, "ann", 3, "bob", 8)
        send(kernel, "ann", 3, "", (2,), 35)
        self.assertEqual(could(kernel, "bob", CELL, ["ann", "bob"]), 0)
        self.assertEqual(could(kernel, "cid", CELL, ["ann", "bob"]), 0)

    def test_a_part_with_pass_is_passed_on(self):
        kernel = with_doors()
        hand(kernel, "ann", 3, "bob", 8)
        send(kernel, "ann", 3, "", (2,), 33)
        self.assertEqual(could(kernel, "bob", CELL, ["ann"]), 33)
        self.assertEqual(could(kernel, "cid", CELL, ["ann"]), 33)
        self.assertEqual(could(kernel, "cid", CELL, ["ann", "cid"]), 33)

    def test_a_door_without_hear(self):
        kernel = with_doors()
        hand(kernel, "ann", 3, "bob", 5)
        send(kernel, "ann", 3, "", (2,))
        self.assertEqual(could(kernel, "bob", CELL, ["ann"]), 0)
        self.assertEqual(could(kernel, "bob", 3, ["ann"]), 5)

    def test_hear_on_what_is_no_door(self):
        kernel = with_doors()
        # No deed of the kernel's makes such a handle, but the tree keeps it.
        kernel.tasks.put("bob", kernel.tree.rooted(CELL, 40, "bob"))
        send(kernel, "ann", 3, "", (2,))
        self.assertEqual(could(kernel, "bob", CELL, ["ann"]), 40)
        self.assertEqual(could(kernel, "cid", CELL, ["ann"]), 40)

    def test_hear_on_another_door(self):
        kernel = with_doors()
        hand(kernel, "ann", 4, "bob", 8)
        send(kernel, "ann", 3, "", (2,))
        self.assertEqual(could(kernel, "bob", CELL, ["ann"]), 0)

    def test_hear_that_is_passed_on(self):
        kernel = with_doors()
        hand(kernel, "ann", 3, "bob", 40)
        send(kernel, "ann", 3, "", (2,), 1)
        self.assertEqual(could(kernel, "cid", CELL, ["ann"]), 1)
        self.assertEqual(could(kernel, "bob", CELL, ["ann"]), 1)
        self.assertEqual(could(kernel, "cid", CELL, ["ann", "bob"]), 0)
        self.assertEqual(could(kernel, "cid", CELL, ["ann", "cid"]), 0)

    def test_each_part_of_each_letter(self):
        kernel = with_doors()
        hand(kernel, "ann", 3, "bob", 8)
        send(kernel, "ann", 3, "no parts")
        send(kernel, "ann", 3, "", (0, 1), 1)
        send(kernel, "ann", 3, "", (4, 2, 0), 48)
        send(kernel, "ann", 3, "", (2,), 2)
        self.assertEqual([could(kernel, "bob", thing, ["ann"]) for thing in range(6)], [49, 1, 34, 8, 32, 0])
        self.assertEqual([could(kernel, "cid", thing, ["ann"]) for thing in range(6)], [48, 0, 32, 0, 32, 0])
        self.assertEqual([could(kernel, "cid", thing, ["ann", "bob"]) for thing in range(6)], [0] * 6)

    def test_doors_behind_doors(self):
        for order in ((3, 4, 5), (5, 4, 3), (4, 3, 5), (4, 5, 3)):
            kernel = with_doors()
            hand(kernel, "ann", order[0], "bob", 8)
            send(kernel, "ann", order[0], "", (order[1],), 8)
            send(kernel, "ann", order[1], "", (order[2],), 8)
            send(kernel, "ann", order[2], "", (2,), 3)
            self.assertEqual(could(kernel, "bob", CELL, ["ann"]), 3, order)
            self.assertEqual(could(kernel, "cid", CELL, ["ann"]), 0, order)
            self.assertEqual(could(kernel, "cid", CELL, ["ann", "bob"]), 0, order)

    def test_a_door_behind_a_door_that_another_opens(self):
        for order in ((3, 4, 5), (5, 4, 3)):
            kernel = with_doors()
            # Bob hears of the second door and may pass that on; cid alone hears at the third.
            hand(kernel, "ann", order[0], "bob", 8)
            hand(kernel, "ann", order[2], "cid", 8)
            send(kernel, "ann", order[0], "", (order[1],), 40)
            send(kernel, "ann", order[1], "", (2,), 1)
            send(kernel, "ann", order[2], "", (2,), 2)
            self.assertEqual(could(kernel, "bob", CELL, ["ann"]), 1, order)
            self.assertEqual(could(kernel, "cid", CELL, ["ann"]), 3, order)
            self.assertEqual(could(kernel, "cid", CELL, ["ann", "bob"]), 2, order)
            self.assertEqual(could(kernel, "cid", order[1], ["ann", "cid"]), 40, order)
            self.assertEqual(could(kernel, "cid", CELL, ["ann", "cid"]), 0, order)

    def test_a_door_behind_a_closed_one(self):
        kernel = with_doors()
        send(kernel, "ann", 3, "", (4,), 8)
        send(kernel, "ann", 4, "", (2,), 3)
        self.assertEqual(could(kernel, "bob", CELL, ["ann"]), 0)
        hand(kernel, "ann", 4, "cid", 8)
        self.assertEqual(could(kernel, "bob", CELL, ["ann"]), 0)
        self.assertEqual(could(kernel, "cid", CELL, ["ann"]), 3)

    def test_a_letter_that_has_its_own_door(self):
        kernel = with_doors()
        hand(kernel, "ann", 3, "bob", 8)
        send(kernel, "ann", 3, "", (3, 2), 41)
        self.assertEqual(could(kernel, "bob", 3, ["ann"]), 41)
        self.assertEqual(could(kernel, "cid", 3, ["ann"]), 41)
        self.assertEqual(could(kernel, "cid", CELL, ["ann"]), 33)

    def test_a_part_that_is_not_kept_any_more(self):
        kernel = with_doors()
        hand(kernel, "ann", 3, "bob", 8)
        send(kernel, "ann", 3, "", (2, 0))
        self.assertEqual(could(kernel, "cid", CELL, ["ann"]), 35)
        call_back(kernel, "ann", 2)
        self.assertEqual(could(kernel, "bob", CELL, ["ann"]), 0)
        self.assertEqual(could(kernel, "cid", CELL, ["ann"]), 0)
        self.assertEqual(could(kernel, "cid", 0, ["ann"]), 49)

    def test_a_letter_that_was_heard(self):
        kernel = with_doors()
        hand(kernel, "ann", 3, "bob", 8)
        send(kernel, "ann", 3, "", (2,), 1)
        hand(kernel, "ann", 3, "cid", 8)
        self.assertEqual(could(kernel, "cid", CELL, ["ann"]), 1)
        hear(kernel, "bob", 0)
        self.assertEqual(could(kernel, "cid", CELL, ["ann"]), 0)
        self.assertEqual(could(kernel, "bob", CELL, ["ann"]), 1)

    def test_a_letter_that_came_from_a_task_that_is_still(self):
        kernel = with_doors()
        hand(kernel, "ann", 3, "bob", 4)
        make(kernel, "bob", "line")
        send(kernel, "bob", 0, "", (1,), 33)
        self.assertEqual(could(kernel, "cid", 6, ["bob"]), 33)
        self.assertEqual(could(kernel, "cid", 6, ["ann", "bob"]), 0)


class StillTest(KernelCase):
    def test_none_a_list_a_tuple_and_one_named_twice(self):
        kernel = with_doors()
        for still in (None, [], (), ["cid"], ("cid",), ("bob", "bob"), ["bob", "cid", "bob"]):
            self.assertEqual(could(kernel, "bob", CELL, still), 35, still)
        for still in (["ann"], ("ann",), ["ann", "ann"], ("ann", "bob", "ann"), ["cid", "ann"]):
            self.assertEqual(could(kernel, "bob", CELL, still), 0, still)

    def test_what_is_handed_in_stays_as_it_was(self):
        kernel = with_doors()
        ahead = whole(kernel)
        still = ["ann", "bob"]
        could(kernel, "bob", CELL, still)
        self.assertEqual(still, ["ann", "bob"])
        self.assertEqual(whole(kernel), ahead)

    def test_it_is_a_number(self):
        kernel = with_doors()
        self.assertIs(type(could(kernel, "bob", CELL)), int)
        self.assertIs(type(could(kernel, "bob", CELL, ("ann",))), int)

    def test_refusals_in_their_order(self):
        kernel = with_doors()
        for task in NO_TASKS:
            for thing, still in ((2, None), (99, None), (ODD, ["zed"]), (2, ["zed"])):
                self.refused(kernel, NoTask, could, task, thing, still)
        for thing in (-1, 6, 7, 10 ** 30) + NO_NUMBERS:
            self.refused(kernel, NoThing, could, "ann", thing)
            self.refused(kernel, NoThing, could, "ann", thing, ["zed"])
            self.refused(kernel, NoThing, could, "ann", thing, [ODD])
        for task in NO_TASKS:
            self.refused(kernel, NoTask, could, "ann", CELL, [task])
            self.refused(kernel, NoTask, could, "ann", CELL, (task,))
            self.refused(kernel, NoTask, could, "ann", CELL, ["bob", "bob", task, "ann"])

    def test_of_another_kind(self):
        kernel = with_doors()
        for still in (ODD, 7, True, False, "", "ann", {}, {"ann": 1}, {"ann"}, b"ann"):
            self.refused(kernel, NoTask, could, "ann", CELL, still)

    def test_one_that_has_ended(self):
        kernel = with_doors()
        do(kernel, "ann", 0, "end")
        self.refused(kernel, NoTask, could, "bob", CELL)
        self.refused(kernel, NoTask, could, "ann", CELL, ["cid", "bob"])
        self.assertEqual(could(kernel, "cid", CELL, ["cid"]), 35)


# The last row of the promise: what comes later is within what was told.
class LaterTest(KernelCase):
    def test_what_those_that_act_do_later(self):
        kernel = with_doors()
        hand(kernel, "ann", 3, "bob", 40)
        hand(kernel, "ann", 4, "cid", 13)
        send(kernel, "ann", 3, "", (4, 2), 41)
        told = could(kernel, "cid", CELL, ["ann"])
        self.assertEqual(told, 33)
        hear(kernel, "bob", 0)
        self.assertEqual(can(kernel, "bob", CELL), 33)
        start(kernel, "bob", "dan")
        hand(kernel, "bob", 2, "dan")
        hand(kernel, "dan", 0, "cid")
        self.assertEqual(can(kernel, "cid", CELL), told)
        call_back(kernel, "bob", 2)
        self.assertEqual(can(kernel, "cid", CELL), 0)

    def test_it_is_all_that_may_come_where_one_hands_on_alone(self):
        for rights in range(64):
            if rights & 35 == rights:
                kernel = with_doors()
                hand(kernel, "ann", 2, "bob", rights)
                self.assertEqual(could(kernel, "cid", CELL, ["ann"]), rights if rights & 32 else 0)

    def test_a_kernel_of_one(self):
        kernel = begun("ann")
        make(kernel, "ann", "door")
        self.assertEqual(could(kernel, "ann", 0), 45)
        self.assertEqual(could(kernel, "ann", 0, ["ann"]), 45)


if __name__ == "__main__":
    unittest.main()
