"""Promise 28: all of a kernel as rows of text."""

import unittest

from kernels import FULL_NAMES, KernelCase, long_chain, whole, with_tasks
from passkeep.deeds import call_back, do, give_up
from passkeep.kernel import begun, hand, make, narrow, start
from passkeep.letters import hear, send
from passkeep.showing import shown


def rows_of(kernel, word):
    return [row for row in shown(kernel) if row.split(" ")[0] == word]


class WholeTest(KernelCase):
    def test_a_new_kernel(self):
        self.assertEqual(shown(begun("ann")), ["task ann"])

    def test_its_kinds(self):
        kernel = with_tasks(["bob"])
        told = shown(kernel)
        self.assertIs(type(told), list)
        for row in told:
            self.assertIs(type(row), str)

    def test_all_of_one(self):
        kernel = begun("ann")
        start(kernel, "ann", "bob")
        for kind in ("cell", "line", "door"):
            make(kernel, "ann", kind)
        hand(kernel, "ann", 1, "bob", 33)
        hand(kernel, "bob", 0, "ann", 0)
        do(kernel, "ann", 1, "write", -12)
        do(kernel, "ann", 2, "push", 3)
        do(kernel, "ann", 2, "push", -4)
        send(kernel, "ann", 3, "hi there", (2, 0))
        send(kernel, "ann", 3, "")
        self.assertEqual(shown(kernel), [
            "task ann 0:0 1:1 2:2 3:3 4:5",
            "task bob 0:4",
            "thing 0 post bob True",
            "thing 1 cell -12",
            "thing 2 line 3 -4",
            "thing 3 door 2 [hi there] 6 7 []",
            "handle 0 - 0 look+end+pass ann",
            "handle 1 - 1 look+put+pass ann",
            "handle 2 - 2 look+put+pass ann",
            "handle 3 - 3 look+send+hear+pass ann",
            "handle 4 1 1 look+pass bob",
            "handle 5 4 1 nothing ann",
            "handle 6 2 2 look+put+pass -",
            "handle 7 0 0 look+end+pass -",
        ])

    def test_the_rows_are_the_askers_own(self):
        kernel = with_tasks(["bob"])
        ahead = whole(kernel)
        told = shown(kernel)
        told.clear()
        kept = shown(kernel)
        self.assertEqual(kept, ["task ann 0:0", "task bob", "thing 0 post bob True", "handle 0 - 0 look+end+pass ann"])
        self.assertEqual(whole(kernel), ahead)
        do(kernel, "ann", 0, "end")
        self.assertEqual(len(kept), 4)

    def test_nothing_is_left_of_what_went(self):
        kernel = with_tasks(["bob"])
        do(kernel, "ann", 0, "end")
        self.assertEqual(shown(kernel), ["task ann", "thing 0 post bob False"])


class TasksTest(KernelCase):
    def test_in_the_order_in_which_they_were_added(self):
        kernel = begun("zoe")
        start(kernel, "zoe", "mia")
        start(kernel, "zoe", "abe")
        start(kernel, "mia", "lea")
        self.assertEqual(rows_of(kernel, "task"), ["task zoe 0:0 1:1", "task mia 0:2", "task abe", "task lea"])
        do(kernel, "zoe", 0, "end")
        start(kernel, "abe", "bea")
        self.assertEqual(rows_of(kernel, "task"), ["task zoe 1:1", "task abe 0:3", "task bea"])

    def test_slots_by_their_numbers(self):
        kernel = begun("ann")
        for count in range(16):
            make(kernel, "ann", "cell")
        pairs = [f"{slot}:{slot}" for slot in range(16)]
        self.assertEqual(rows_of(kernel, "task"), ["task ann " + " ".join(pairs)])
        give_up(kernel, "ann", 3)
        give_up(kernel, "ann", 0)
        make(kernel, "ann", "line")
        pairs[0] = "0:16"
        pairs.pop(3)
        self.assertEqual(rows_of(kernel, "task"), ["task ann " + " ".join(pairs)])

    def test_as_many_as_may_run(self):
        kernel = with_tasks(FULL_NAMES)
        self.assertEqual(rows_of(kernel, "task")[1:], ["task " + name for name in FULL_NAMES])

    def test_a_number_that_the_tree_keeps_no_more(self):
        kernel = with_tasks(["bob"])
        kernel.tree.cut(0)
        self.assertEqual(shown(kernel), ["task ann 0:0", "task bob", "thing 0 post bob True"])


class ThingsTest(KernelCase):
    def test_cells(self):
        kernel = begun("ann")
        make(kernel, "ann", "cell")
        for value in (0, 5, -5, 10 ** 12, -10 ** 12):
            do(kernel, "ann", 0, "write", value)
            self.assertEqual(rows_of(kernel, "thing"), ["thing 0 cell " + str(value)])

    def test_lines(self):
        kernel = begun("ann")
        make(kernel, "ann", "line")
        self.assertEqual(rows_of(kernel, "thing"), ["thing 0 line"])
        for value in (0, -7, 12):
            do(kernel, "ann", 0, "push", value)
        self.assertEqual(rows_of(kernel, "thing"), ["thing 0 line 0 -7 12"])
        do(kernel, "ann", 0, "pull")
        self.assertEqual(rows_of(kernel, "thing"), ["thing 0 line -7 12"])

    def test_posts(self):
        kernel = with_tasks(["bob", "cid"])
        self.assertEqual(rows_of(kernel, "thing"), ["thing 0 post bob True", "thing 1 post cid True"])
        do(kernel, "ann", 1, "end")
        self.assertEqual(rows_of(kernel, "thing"), ["thing 0 post bob True", "thing 1 post cid False"])

    def test_doors(self):
        kernel = begun("ann")
        make(kernel, "ann", "door")
        self.assertEqual(rows_of(kernel, "thing"), ["thing 0 door 0"])
        send(kernel, "ann", 0, "")
        self.assertEqual(rows_of(kernel, "thing"), ["thing 0 door 1 []"])
        send(kernel, "ann", 0, " a  b [] ")
        self.assertEqual(rows_of(kernel, "thing"), ["thing 0 door 2 [] [ a  b [] ]"])
        send(kernel, "ann", 0, "", (0, 0))
        self.assertEqual(rows_of(kernel, "thing"), ["thing 0 door 3 [] [ a  b [] ] [] 1 2"])
        send(kernel, "ann", 0, "x", (0,))
        self.assertEqual(rows_of(kernel, "thing"), ["thing 0 door 4 [] [ a  b [] ] [] 1 2 [x] 3"])
        hear(kernel, "ann", 0)
        hear(kernel, "ann", 0)
        self.assertEqual(rows_of(kernel, "thing"), ["thing 0 door 2 [] 1 2 [x] 3"])

    def test_parts_kept_or_not(self):
        kernel = begun("ann")
        make(kernel, "ann", "door")
        make(kernel, "ann", "cell")
        send(kernel, "ann", 0, "a", (0, 1, 0))
        call_back(kernel, "ann", 1)
        self.assertEqual(rows_of(kernel, "thing"), ["thing 0 door 1 [a] 2 3 4", "thing 1 cell 0"])
        self.assertEqual([row.split(" ")[1] for row in rows_of(kernel, "handle")], ["0", "1", "2", "4"])

    def test_rising(self):
        kernel = begun("ann")
        for count in range(12):
            make(kernel, "ann", "cell")
        self.assertEqual(rows_of(kernel, "thing"), [f"thing {number} cell 0" for number in range(12)])


class HandlesTest(KernelCase):
    def test_all_rights(self):
        words = ["look", "put", "send", "hear", "end", "pass"]
        for rights in range(64):
            kernel = begun("ann")
            kernel.tree.rooted(7, rights, "ann")
            expected = "+".join([word for at, word in enumerate(words) if rights & 2 ** at]) or "nothing"
            self.assertEqual(shown(kernel), ["task ann", f"handle 0 - 7 {expected} ann"])

    def test_with_and_without_giver_and_holder(self):
        kernel = begun("ann")
        kernel.tree.rooted(0, 35, "")
        kernel.tree.derived(0, 1, "bob")
        kernel.tree.derived(0, 0, "")
        kernel.tree.rooted(1, 0, "cid")
        self.assertEqual(rows_of(kernel, "handle"), [
            "handle 0 - 0 look+put+pass -", "handle 1 0 0 look bob", "handle 2 0 0 nothing -",
            "handle 3 - 1 nothing cid"])

    def test_rising_and_only_those_that_are_kept(self):
        kernel = begun("ann")
        make(kernel, "ann", "cell")
        narrow(kernel, "ann", 0, 33)
        narrow(kernel, "ann", 1, 1)
        make(kernel, "ann", "cell")
        give_up(kernel, "ann", 1)
        narrow(kernel, "ann", 0, 2)
        self.assertEqual(rows_of(kernel, "handle"), [
            "handle 0 - 0 look+put+pass ann", "handle 3 - 1 look+put+pass ann", "handle 4 0 0 put ann"])

    def test_a_part_that_is_heard_has_a_holder(self):
        kernel = with_tasks(["bob"])
        make(kernel, "ann", "door")
        hand(kernel, "ann", 1, "bob", 8)
        send(kernel, "ann", 1, "", (1,), 5)
        self.assertEqual(rows_of(kernel, "handle")[-1], "handle 3 1 1 look+send -")
        hear(kernel, "bob", 0)
        self.assertEqual(rows_of(kernel, "handle")[-1], "handle 3 1 1 look+send bob")

    def test_a_long_chain(self):
        kernel = begun("ann")
        long_chain(kernel, "ann", make(kernel, "ann", "cell"), 40)
        givers = ["-"] + [str(number) for number in range(39)]
        self.assertEqual(rows_of(kernel, "handle"),
                         [f"handle {number} {giver} 0 look+put+pass ann" for number, giver in enumerate(givers)])


if __name__ == "__main__":
    unittest.main()
