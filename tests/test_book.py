"""Promises 23 and 24: who can do what, by whose giving, and the book of it all."""

import unittest

from kernels import KernelCase, NO_NAMES, NO_NUMBERS, NO_RIGHTS, NO_SLOTS, ODD, fill_slots, whole, with_tasks
from passkeep.book import book, can, chain_of, given_to, who_can
from passkeep.deeds import call_back, do, give_up
from passkeep.errors import NoHandle, NoRights, NoTask, NoThing
from passkeep.kernel import begun, hand, make, narrow, start
from passkeep.letters import hear, send

NO_TASKS = NO_NAMES + ("zed", "ANN", "ann ")


# Posts of bob (thing 0) and cid (1), a cell (2) and a door (3) in ann's slots of these numbers.
def with_cell_and_door():
    kernel = with_tasks(["bob", "cid"])
    make(kernel, "ann", "cell")
    make(kernel, "ann", "door")
    return kernel


# The cell is handed to bob (look put pass, look alone), and by bob to cid (look pass) and by cid to ann (look).
def handed_round():
    kernel = with_cell_and_door()
    hand(kernel, "ann", 2, "bob")
    hand(kernel, "ann", 2, "bob", 1)
    hand(kernel, "bob", 0, "cid", 33)
    hand(kernel, "cid", 0, "ann", 1)
    hand(kernel, "bob", 0, "bob", 2)
    return kernel


def no_things(kernel):
    return (-1, len(kernel.things), len(kernel.things) + 1, 10 ** 30) + NO_NUMBERS


class CanTest(KernelCase):
    def cans(self, kernel, thing):
        return [can(kernel, name, thing) for name in kernel.tasks.running()]

    def test_what_is_made_and_started(self):
        kernel = begun("ann")
        make(kernel, "ann", "cell")
        make(kernel, "ann", "line")
        make(kernel, "ann", "door")
        start(kernel, "ann", "bob")
        self.assertEqual([can(kernel, "ann", thing) for thing in range(4)], [35, 35, 45, 49])
        self.assertEqual([can(kernel, "bob", thing) for thing in range(4)], [0, 0, 0, 0])
        self.assertIs(type(can(kernel, "ann", 0)), int)

    def test_it_is_a_number_where_there_is_none(self):
        kernel = with_cell_and_door()
        self.assertIs(type(can(kernel, "bob", 2)), int)

    def test_the_rights_of_several_handles_together(self):
        kernel = with_cell_and_door()
        hand(kernel, "ann", 3, "bob", 1)
        self.assertEqual(self.cans(kernel, 3), [45, 1, 0])
        hand(kernel, "ann", 3, "bob", 4)
        self.assertEqual(self.cans(kernel, 3), [45, 5, 0])
        hand(kernel, "ann", 3, "bob", 5)
        self.assertEqual(self.cans(kernel, 3), [45, 5, 0])
        hand(kernel, "ann", 3, "bob", 40)
        self.assertEqual(self.cans(kernel, 3), [45, 45, 0])

    def test_a_narrower_one_takes_nothing_away(self):
        kernel = with_cell_and_door()
        narrow(kernel, "ann", 2, 1)
        self.assertEqual(self.cans(kernel, 2), [35, 0, 0])
        narrow(kernel, "ann", 2, 0)
        self.assertEqual(self.cans(kernel, 2), [35, 0, 0])

    def test_a_handle_without_rights_gives_none(self):
        kernel = with_cell_and_door()
        hand(kernel, "ann", 2, "bob", 0)
        self.assertEqual(self.cans(kernel, 2), [35, 0, 0])

    def test_handed_on_and_called_back(self):
        kernel = handed_round()
        self.assertEqual(self.cans(kernel, 2), [35, 35, 33])
        self.assertEqual(call_back(kernel, "bob", 0), 3)
        self.assertEqual(self.cans(kernel, 2), [35, 35, 0])
        self.assertEqual(call_back(kernel, "ann", 2), 2)
        self.assertEqual(self.cans(kernel, 2), [35, 0, 0])

    def test_given_up(self):
        kernel = handed_round()
        self.assertEqual(give_up(kernel, "bob", 0), 4)
        self.assertEqual(self.cans(kernel, 2), [35, 1, 0])
        self.assertEqual(give_up(kernel, "ann", 2), 2)
        self.assertEqual(self.cans(kernel, 2), [0, 0, 0])

    def test_sent_and_heard(self):
        kernel = with_cell_and_door()
        hand(kernel, "ann", 3, "bob", 8)
        send(kernel, "ann", 3, "", (2,), 34)
        self.assertEqual(self.cans(kernel, 2), [35, 0, 0])
        hear(kernel, "bob", 0)
        self.assertEqual(self.cans(kernel, 2), [35, 34, 0])

    def test_ended(self):
        kernel = handed_round()
        self.assertEqual(do(kernel, "ann", 0, "end"), 1)
        self.assertEqual(kernel.tasks.running(), ["ann", "cid"])
        # Cid's handle came from bob's.
        self.assertEqual(self.cans(kernel, 2), [35, 0])
        self.assertEqual(self.cans(kernel, 0), [0, 0])
        self.assertEqual(self.cans(kernel, 1), [49, 0])

    def test_handles_that_are_not_kept_count_no_more(self):
        kernel = with_cell_and_door()
        fill_slots(kernel, "bob")
        self.assertEqual(can(kernel, "bob", 2), 0)
        kernel.tree.cut(2)
        self.assertEqual(can(kernel, "ann", 2), 0)

    def test_refusals(self):
        kernel = handed_round()
        for task in NO_TASKS:
            for thing in (2, 99, "2", ODD):
                self.refused(kernel, NoTask, can, task, thing)
        for thing in no_things(kernel):
            self.refused(kernel, NoThing, can, "ann", thing)
        do(kernel, "ann", 0, "end")
        self.refused(kernel, NoTask, can, "bob", 2)

    def test_no_thing_at_all(self):
        kernel = begun("ann")
        for thing in (0, False, -1):
            self.refused(kernel, NoThing, can, "ann", thing)

    def test_truths_are_no_things(self):
        kernel = with_cell_and_door()
        for thing in (True, False, 1.0, 2.0, "1"):
            self.refused(kernel, NoThing, can, "ann", thing)

    def test_asking_changes_nothing(self):
        kernel = handed_round()
        ahead = whole(kernel)
        self.cans(kernel, 2)
        self.assertEqual(whole(kernel), ahead)


class WhoCanTest(KernelCase):
    def test_one_handle_has_all_the_rights(self):
        kernel = with_cell_and_door()
        hand(kernel, "ann", 3, "bob", 1)
        hand(kernel, "ann", 3, "bob", 12)
        hand(kernel, "ann", 3, "cid", 9)
        self.assertEqual(who_can(kernel, 3, 1), ["ann", "bob", "cid"])
        self.assertEqual(who_can(kernel, 3, 8), ["ann", "bob", "cid"])
        self.assertEqual(who_can(kernel, 3, 12), ["ann", "bob"])
        self.assertEqual(who_can(kernel, 3, 4), ["ann", "bob"])
        # Bob has look and hear, but not by one handle.
        self.assertEqual(who_can(kernel, 3, 9), ["ann", "cid"])
        self.assertEqual(who_can(kernel, 3, 13), ["ann"])
        self.assertEqual(who_can(kernel, 3, 45), ["ann"])
        self.assertEqual(who_can(kernel, 3, 2), [])
        self.assertEqual(who_can(kernel, 3, 47), [])
        self.assertEqual(who_can(kernel, 3, 63), [])

    def test_no_rights_are_had_by_any_handle(self):
        kernel = with_cell_and_door()
        self.assertEqual(who_can(kernel, 2, 0), ["ann"])
        hand(kernel, "ann", 2, "cid", 0)
        self.assertEqual(who_can(kernel, 2, 0), ["ann", "cid"])
        self.assertEqual(who_can(kernel, 2, 1), ["ann"])
        give_up(kernel, "ann", 2)
        self.assertEqual(who_can(kernel, 2, 0), [])

    def test_the_order_is_that_of_the_tasks(self):
        kernel = begun("zoe")
        start(kernel, "zoe", "mia")
        start(kernel, "zoe", "abe")
        start(kernel, "mia", "lea")
        make(kernel, "abe", "cell")
        hand(kernel, "abe", 0, "lea", 1)
        hand(kernel, "abe", 0, "mia", 1)
        hand(kernel, "abe", 0, "zoe", 1)
        hand(kernel, "abe", 0, "zoe", 1)
        self.assertEqual(who_can(kernel, 3, 1), ["zoe", "mia", "abe", "lea"])
        do(kernel, "zoe", 0, "end")
        self.assertEqual(who_can(kernel, 3, 1), ["zoe", "abe"])

    def test_behind_all_kinds_of_deeds(self):
        kernel = handed_round()
        self.assertEqual(who_can(kernel, 2, 33), ["ann", "bob", "cid"])
        self.assertEqual(who_can(kernel, 2, 2), ["ann", "bob"])
        call_back(kernel, "bob", 0)
        self.assertEqual(who_can(kernel, 2, 1), ["ann", "bob"])
        send(kernel, "ann", 3, "", [2], 1)
        hand(kernel, "ann", 3, "cid", 8)
        self.assertEqual(who_can(kernel, 2, 1), ["ann", "bob"])
        hear(kernel, "cid", 0)
        self.assertEqual(who_can(kernel, 2, 1), ["ann", "bob", "cid"])
        do(kernel, "ann", 0, "end")
        self.assertEqual(who_can(kernel, 2, 1), ["ann", "cid"])
        give_up(kernel, "ann", 2)
        self.assertEqual(who_can(kernel, 2, 0), [])

    def test_all_rights_one_by_one(self):
        kernel = with_cell_and_door()
        for rights in range(64):
            self.assertEqual(who_can(kernel, 2, rights), ["ann"] if rights & 35 == rights else [])
            self.assertEqual(who_can(kernel, 0, rights), ["ann"] if rights & 49 == rights else [])

    def test_handles_that_are_not_kept_count_no_more(self):
        kernel = with_cell_and_door()
        fill_slots(kernel, "bob")
        self.assertEqual(who_can(kernel, 2, 0), ["ann"])

    def test_refusals(self):
        kernel = handed_round()
        for thing in no_things(kernel):
            for rights in (1, 64, "look", ODD):
                self.refused(kernel, NoThing, who_can, thing, rights)
        for rights in NO_RIGHTS + (None,):
            self.refused(kernel, NoRights, who_can, 2, rights)

    def test_the_list_is_the_askers_own(self):
        kernel = handed_round()
        ahead = whole(kernel)
        told = who_can(kernel, 2, 1)
        told.append("zed")
        self.assertEqual(who_can(kernel, 2, 1), ["ann", "bob", "cid"])
        self.assertEqual(whole(kernel), ahead)
        kept = who_can(kernel, 2, 1)
        call_back(kernel, "ann", 2)
        self.assertEqual(kept, ["ann", "bob", "cid"])


class ChainOfTest(KernelCase):
    def test_from_the_first_down_to_the_handle_itself(self):
        kernel = handed_round()
        self.assertEqual(chain_of(kernel, "ann", 2), [("ann", 35)])
        self.assertEqual(chain_of(kernel, "bob", 0), [("ann", 35), ("bob", 35)])
        self.assertEqual(chain_of(kernel, "bob", 1), [("ann", 35), ("bob", 1)])
        self.assertEqual(chain_of(kernel, "cid", 0), [("ann", 35), ("bob", 35), ("cid", 33)])
        self.assertEqual(chain_of(kernel, "ann", 4), [("ann", 35), ("bob", 35), ("cid", 33), ("ann", 1)])
        self.assertEqual(chain_of(kernel, "bob", 2), [("ann", 35), ("bob", 35), ("bob", 2)])

    def test_its_kinds(self):
        told = chain_of(handed_round(), "cid", 0)
        self.assertIs(type(told), list)
        for pair in told:
            self.assertIs(type(pair), tuple)

    def test_narrowed_sent_and_heard(self):
        kernel = with_cell_and_door()
        narrow(kernel, "ann", 2, 33)
        hand(kernel, "ann", 3, "cid", 8)
        send(kernel, "ann", 3, "", (4,), 1)
        hear(kernel, "cid", 0)
        self.assertEqual(chain_of(kernel, "cid", 1), [("ann", 35), ("ann", 33), ("cid", 1)])

    def test_one_that_nobody_has(self):
        kernel = with_cell_and_door()
        send(kernel, "ann", 3, "", (2,))
        # No slot has such a one by itself: so it is put into one.
        self.assertEqual(kernel.tasks.put("bob", 4), 0)
        self.assertEqual(chain_of(kernel, "bob", 0), [("ann", 35), ("", 35)])

    def test_refusals(self):
        kernel = handed_round()
        for task in NO_TASKS:
            for slot in (0, 99, ODD):
                self.refused(kernel, NoTask, chain_of, task, slot)
        for slot in NO_SLOTS + (5, 15):
            self.refused(kernel, NoHandle, chain_of, "ann", slot)
        call_back(kernel, "ann", 2)
        self.refused(kernel, NoHandle, chain_of, "bob", 0)
        do(kernel, "ann", 0, "end")
        self.refused(kernel, NoTask, chain_of, "bob", 0)

    def test_the_list_is_the_askers_own(self):
        kernel = handed_round()
        ahead = whole(kernel)
        told = chain_of(kernel, "bob", 0)
        told.pop()
        self.assertEqual(chain_of(kernel, "bob", 0), [("ann", 35), ("bob", 35)])
        self.assertEqual(whole(kernel), ahead)
        call_back(kernel, "ann", 2)
        self.assertEqual(told, [("ann", 35)])


class GivenToTest(KernelCase):
    def test_all_below_and_how_far(self):
        kernel = handed_round()
        self.assertEqual(given_to(kernel, "ann", 2),
                         [(1, "bob", 35), (2, "cid", 33), (3, "ann", 1), (2, "bob", 2), (1, "bob", 1)])
        self.assertEqual(given_to(kernel, "bob", 0), [(1, "cid", 33), (2, "ann", 1), (1, "bob", 2)])
        self.assertEqual(given_to(kernel, "cid", 0), [(1, "ann", 1)])
        self.assertEqual(given_to(kernel, "ann", 4), [])
        self.assertEqual(given_to(kernel, "bob", 1), [])
        self.assertEqual(given_to(kernel, "ann", 0), [])

    def test_its_kinds(self):
        told = given_to(handed_round(), "ann", 2)
        self.assertIs(type(told), list)
        for triple in told:
            self.assertIs(type(triple), tuple)
            self.assertIs(type(triple[0]), int)

    def test_one_that_comes_late_stands_behind_its_own_giver(self):
        kernel = handed_round()
        hand(kernel, "cid", 0, "bob", 0)
        self.assertEqual(given_to(kernel, "ann", 2), [(1, "bob", 35), (2, "cid", 33), (3, "ann", 1), (3, "bob", 0),
                                                      (2, "bob", 2), (1, "bob", 1)])

    def test_sent_and_heard(self):
        kernel = with_cell_and_door()
        send(kernel, "ann", 3, "", (2, 3), 37)
        self.assertEqual(given_to(kernel, "ann", 2), [(1, "", 33)])
        self.assertEqual(given_to(kernel, "ann", 3), [(1, "", 37)])
        hand(kernel, "ann", 3, "bob", 8)
        hear(kernel, "bob", 0)
        self.assertEqual(given_to(kernel, "ann", 2), [(1, "bob", 33)])
        self.assertEqual(given_to(kernel, "ann", 3), [(1, "bob", 37), (1, "bob", 8)])

    def test_called_back_given_up_and_ended(self):
        kernel = handed_round()
        give_up(kernel, "cid", 0)
        self.assertEqual(given_to(kernel, "ann", 2), [(1, "bob", 35), (2, "bob", 2), (1, "bob", 1)])
        call_back(kernel, "bob", 0)
        self.assertEqual(given_to(kernel, "ann", 2), [(1, "bob", 35), (1, "bob", 1)])
        do(kernel, "ann", 0, "end")
        self.assertEqual(given_to(kernel, "ann", 2), [])

    def test_a_long_chain(self):
        kernel = begun("ann")
        make(kernel, "ann", "cell")
        number = kernel.tasks.at("ann", 0)
        for far in range(39):
            number = kernel.tree.derived(number, 33, "ann")
        self.assertEqual(given_to(kernel, "ann", 0), [(far, "ann", 33) for far in range(1, 40)])

    def test_refusals(self):
        kernel = handed_round()
        for task in NO_TASKS:
            for slot in (0, 99, ODD):
                self.refused(kernel, NoTask, given_to, task, slot)
        for slot in NO_SLOTS + (5, 15):
            self.refused(kernel, NoHandle, given_to, "ann", slot)
        give_up(kernel, "ann", 2)
        self.refused(kernel, NoHandle, given_to, "ann", 2)
        do(kernel, "ann", 0, "end")
        self.refused(kernel, NoTask, given_to, "bob", 0)

    def test_the_list_is_the_askers_own(self):
        kernel = handed_round()
        ahead = whole(kernel)
        told = given_to(kernel, "cid", 0)
        told.append(told)
        self.assertEqual(given_to(kernel, "cid", 0), [(1, "ann", 1)])
        self.assertEqual(whole(kernel), ahead)
        kept = given_to(kernel, "cid", 0)
        call_back(kernel, "ann", 2)
        self.assertEqual(kept, [(1, "ann", 1)])


class BookTest(KernelCase):
    def test_one_task_without_any(self):
        self.assertEqual(book(begun("ann")), {"ann": {}})

    def test_behind_all_kinds_of_deeds(self):
        kernel = with_cell_and_door()
        self.assertEqual(book(kernel), {"ann": {0: 49, 1: 49, 2: 35, 3: 45}, "bob": {}, "cid": {}})
        hand(kernel, "ann", 2, "bob", 33)
        hand(kernel, "ann", 2, "bob", 2)
        hand(kernel, "ann", 3, "cid", 8)
        self.assertEqual(book(kernel), {"ann": {0: 49, 1: 49, 2: 35, 3: 45}, "bob": {2: 35}, "cid": {3: 8}})
        send(kernel, "ann", 3, "", (0,), 16)
        hear(kernel, "cid", 0)
        self.assertEqual(book(kernel)["cid"], {0: 16, 3: 8})
        call_back(kernel, "ann", 2)
        self.assertEqual(book(kernel)["bob"], {})
        give_up(kernel, "ann", 3)
        self.assertEqual(book(kernel), {"ann": {0: 49, 1: 49, 2: 35}, "bob": {}, "cid": {0: 16}})
        do(kernel, "cid", 1, "end")
        self.assertEqual(book(kernel), {"ann": {1: 49, 2: 35}, "cid": {}})

    def test_the_order_of_tasks_and_things(self):
        kernel = begun("zoe")
        start(kernel, "zoe", "mia")
        start(kernel, "zoe", "abe")
        for kind in ("cell", "line", "door"):
            make(kernel, "zoe", kind)
        for slot in (4, 2, 3):
            hand(kernel, "zoe", slot, "abe", 1)
        hand(kernel, "zoe", 4, "mia")
        hand(kernel, "zoe", 2, "mia")
        told = book(kernel)
        self.assertEqual(list(told), ["zoe", "mia", "abe"])
        self.assertEqual([list(told[name]) for name in told], [[0, 1, 2, 3, 4], [2, 4], [2, 3, 4]])
        do(kernel, "zoe", 0, "end")
        start(kernel, "abe", "bea")
        self.assertEqual(list(book(kernel)), ["zoe", "abe", "bea"])

    def test_none_with_no_rights(self):
        kernel = with_cell_and_door()
        hand(kernel, "ann", 2, "bob", 0)
        hand(kernel, "ann", 3, "bob", 0)
        hand(kernel, "ann", 3, "bob", 1)
        self.assertEqual(book(kernel)["bob"], {3: 1})
        self.assertEqual(book(kernel)["cid"], {})

    def test_as_can_tells(self):
        kernel = handed_round()
        for name, page in book(kernel).items():
            for thing in kernel.things:
                self.assertEqual(page.get(thing, 0), can(kernel, name, thing))

    def test_only_the_things_that_there_are(self):
        kernel = begun("ann")
        kernel.tasks.put("ann", kernel.tree.rooted(7, 3, "ann"))
        kernel.tasks.put("ann", 10 ** 6)
        self.assertEqual(book(kernel), {"ann": {}})

    def test_what_is_told_is_the_askers_own(self):
        kernel = handed_round()
        ahead = whole(kernel)
        told = book(kernel)
        told["ann"][2] = 0
        told["bob"].clear()
        told["zed"] = {}
        self.assertEqual(book(kernel), {"ann": {0: 49, 1: 49, 2: 35, 3: 45}, "bob": {2: 35}, "cid": {2: 33}})
        self.assertEqual(whole(kernel), ahead)
        kept = book(kernel)
        do(kernel, "ann", 0, "end")
        self.assertEqual(kept["cid"], {2: 33})
        self.assertIn("bob", kept)


if __name__ == "__main__":
    unittest.main()
