"""Promises 26 and 27: rows that are done, one or many, and the words of refusals."""

import copy
import unittest

from kernels import KernelCase, NO_NAMES, NO_RIGHTS, NO_SLOTS, ODD, facts_at, letters_of, slots_of, whole, with_tasks
from passkeep import errors
from passkeep.errors import (
    Empty, Full, Lacks, NoDeed, NoHandle, NoKind, NoName, NoRights, NoRow, NoTask, NoValue, NoWords, PassError, Taken,
    TooGreat, TooMany,
)
from passkeep.kernel import Kernel, begun
from passkeep.log import acted, played, refusal_word

NO_TASKS = NO_NAMES + ("zed", "ANN", "ann ")
OF_ONE_TEXT = ("NoRights", "NoName", "NoValue", "NoWords", "NoKind", "NoTask", "NoHandle", "NoThing", "NoRow",
               "Taken", "TooMany", "TooGreat", "Empty", "Full")
# For each word the fewest and the most things that stand behind it.
COUNTS = {"make": (1, 1), "start": (1, 1), "narrow": (2, 2), "hand": (2, 3), "back": (1, 1), "give": (1, 1),
          "do": (2, 3), "send": (2, 4), "hear": (1, 1)}
NO_WORD = (ODD, None, True, False, 0, 1, 1.5, [], ["make"], (), ("make",), {}, {"make"}, b"make", object(), str, "",
           "Make", "MAKE", "make ", " make", "call_back", "give_up", "call", "who", "can", "could", "chain", "given",
           "begun", "acted")


# Bob's post (thing 0), a cell (1) and a door (2) in ann's slots of these numbers.
def with_cell_and_door():
    kernel = with_tasks(["bob"])
    acted(kernel, ("ann", "make", "cell"))
    acted(kernel, ("ann", "make", "door"))
    return kernel


class ActedTest(KernelCase):
    def test_make(self):
        kernel = begun("ann")
        for at, kind in enumerate(("cell", "line", "door")):
            self.assertEqual(acted(kernel, ("ann", "make", kind)), at)
            self.assertEqual(kernel.things[at].kind(), kind)

    def test_start(self):
        kernel = begun("ann")
        self.assertEqual(acted(kernel, ("ann", "start", "bob")), 0)
        self.assertEqual(acted(kernel, ("bob", "start", "cid")), 0)
        self.assertEqual(kernel.tasks.made_by("ann"), ["bob", "cid"])
        self.assertEqual(kernel.tasks.made_by("bob"), ["cid"])

    def test_narrow(self):
        kernel = with_cell_and_door()
        self.assertEqual(acted(kernel, ("ann", "narrow", 1, 33)), 3)
        self.assertEqual(facts_at(kernel, "ann", 3), (3, 1, 33, 1, "ann"))

    def test_hand_with_and_without_rights(self):
        kernel = with_cell_and_door()
        self.assertEqual(acted(kernel, ("ann", "hand", 1, "bob")), 0)
        self.assertEqual(acted(kernel, ("ann", "hand", 1, "bob", None)), 1)
        self.assertEqual(acted(kernel, ("ann", "hand", 1, "bob", 1)), 2)
        self.assertEqual(acted(kernel, ("ann", "hand", 1, "bob", 0)), 3)
        self.assertEqual([facts_at(kernel, "bob", slot) for slot in range(4)],
                         [(3, 1, 35, 1, "bob"), (4, 1, 35, 1, "bob"), (5, 1, 1, 1, "bob"), (6, 1, 0, 1, "bob")])

    def test_back_and_give(self):
        kernel = with_cell_and_door()
        acted(kernel, ("ann", "hand", 1, "bob"))
        acted(kernel, ("bob", "hand", 0, "bob"))
        self.assertEqual(acted(kernel, ("ann", "back", 1)), 2)
        self.assertEqual(kernel.tree.kept(), [0, 1, 2])
        acted(kernel, ("ann", "hand", 1, "bob"))
        self.assertEqual(acted(kernel, ("ann", "give", 1)), 2)
        self.assertEqual(kernel.tree.kept(), [0, 2])
        self.assertEqual(slots_of(kernel, "bob"), {})

    def test_do_with_and_without_a_value(self):
        kernel = with_cell_and_door()
        self.assertEqual(acted(kernel, ("ann", "do", 1, "write", 5)), 0)
        self.assertEqual(acted(kernel, ("ann", "do", 1, "read")), 5)
        self.assertEqual(acted(kernel, ("ann", "do", 1, "read", -3)), 5)
        self.assertEqual(acted(kernel, ("ann", "do", 1, "write")), 5)
        self.assertEqual(kernel.things[1].told(), ("cell", 0))
        self.assertEqual(acted(kernel, ("ann", "do", 1, "kind")), "cell")
        self.assertEqual(acted(kernel, ("ann", "do", 0, "state", 0)), "runs")
        self.assertEqual(acted(kernel, ("ann", "do", 0, "end")), 1)

    def test_send_with_and_without_slots_and_rights(self):
        kernel = with_cell_and_door()
        self.assertEqual(acted(kernel, ("ann", "send", 2, "a")), 1)
        self.assertEqual(acted(kernel, ("ann", "send", 2, "b", None)), 2)
        self.assertEqual(acted(kernel, ("ann", "send", 2, "c", (1,))), 3)
        self.assertEqual(acted(kernel, ("ann", "send", 2, "d", [1, 2])), 4)
        self.assertEqual(acted(kernel, ("ann", "send", 2, "e", (1, 2), 33)), 5)
        self.assertEqual(acted(kernel, ("ann", "send", 2, "f", None, 33)), 6)
        self.assertEqual(letters_of(kernel.things[2]),
                         [("a", ()), ("b", ()), ("c", (3,)), ("d", (4, 5)), ("e", (6, 7)), ("f", ())])
        self.assertEqual([kernel.tree.handle(number).rights for number in range(3, 8)], [35, 35, 45, 33, 33])

    def test_hear(self):
        kernel = with_cell_and_door()
        acted(kernel, ("ann", "send", 2, "hi", (1, 0)))
        self.assertEqual(acted(kernel, ("ann", "hear", 2)), ("hi", [3, 4]))
        self.assertEqual(slots_of(kernel, "ann"), {0: 0, 1: 1, 2: 2, 3: 3, 4: 4})

    def test_no_tuple(self):
        kernel = with_cell_and_door()
        for row in (["ann", "make", "cell"], "ann make cell", {"ann": "make"}, None, True, 0, ODD, b"ann", object(),
                    {"ann", "make", "cell"}, [], "", iter(("ann", "make", "cell"))):
            self.refused(kernel, NoRow, acted, row)

    def test_too_short_for_a_word(self):
        kernel = with_cell_and_door()
        for row in ((), ("ann",), (ODD,), ("make",), ("ann", "make"), (("ann", "make", "cell"),)):
            self.refused(kernel, NoRow, acted, row)

    def test_no_such_word(self):
        kernel = with_cell_and_door()
        for word in NO_WORD:
            for rest in ((), ("cell",), (0,), (0, 1), (0, "read", 1), (0, "", None, 63)):
                self.refused(kernel, NoRow, acted, ("ann", word) + rest)

    def test_another_number_of_things(self):
        kernel = with_cell_and_door()
        for word, (fewest, most) in COUNTS.items():
            for count in list(range(fewest)) + [most + 1, most + 2, most + 9]:
                self.refused(kernel, NoRow, acted, ("ann", word) + (1,) * count)
                self.refused(kernel, NoRow, acted, ("ann", word) + (ODD,) * count)

    def test_no_row_goes_ahead_of_all_else(self):
        kernel = with_cell_and_door()
        for task in NO_TASKS:
            self.refused(kernel, NoRow, acted, (task, "fly", 99))
            self.refused(kernel, NoRow, acted, (task, "back"))
            self.refused(kernel, NoRow, acted, (task, "make", "cell", "cell"))
            self.refused(kernel, NoRow, acted, [task, "make", "cell"])

    def test_then_the_function_is_asked(self):
        kernel = with_cell_and_door()
        for word, (fewest, most) in COUNTS.items():
            for count in range(fewest, most + 1):
                self.refused(kernel, NoTask, acted, ("zed", word) + (ODD,) * count)
                for task in NO_TASKS:
                    self.refused(kernel, NoTask, acted, (task, word) + (1,) * count)
                if word not in ("make", "start"):
                    self.refused(kernel, NoHandle, acted, ("ann", word) + (ODD,) * count)

    def test_its_refusals_are_the_functions_own(self):
        kernel = with_cell_and_door()
        for kind in ("post", "", None, ODD):
            self.refused(kernel, NoKind, acted, ("ann", "make", kind))
        for name in NO_NAMES:
            self.refused(kernel, NoName, acted, ("ann", "start", name))
        self.refused(kernel, Taken, acted, ("ann", "start", "bob"))
        for slot in NO_SLOTS + (3,):
            for row in (("narrow", slot, 1), ("hand", slot, "bob"), ("back", slot), ("give", slot),
                        ("do", slot, "kind"), ("send", slot, ""), ("hear", slot)):
                self.refused(kernel, NoHandle, acted, ("ann",) + row)
        for rights in NO_RIGHTS:
            self.refused(kernel, NoRights, acted, ("ann", "narrow", 1, rights))
            self.refused(kernel, NoRights, acted, ("ann", "hand", 1, "bob", rights))
            self.refused(kernel, NoRights, acted, ("ann", "send", 2, "", None, rights))
        self.refused(kernel, NoRights, acted, ("ann", "narrow", 1, None))
        self.refused(kernel, NoRights, acted, ("ann", "send", 2, "", None, None))
        self.lacks(kernel, 12, acted, ("ann", "narrow", 1, 13))
        self.lacks(kernel, 16, acted, ("ann", "hand", 1, "bob", 17))
        self.no_deed(kernel, "fly", acted, ("ann", "do", 1, "fly"))
        self.no_deed(kernel, ODD, acted, ("ann", "do", 1, ODD, 1))
        self.no_deed(kernel, "send", acted, ("ann", "send", 1, "a"))
        self.no_deed(kernel, "hear", acted, ("ann", "hear", 1))
        self.refused(kernel, NoValue, acted, ("ann", "do", 1, "write", None))
        self.refused(kernel, NoWords, acted, ("ann", "send", 2, "a\n"))
        self.refused(kernel, NoHandle, acted, ("ann", "send", 2, "", (9,)))
        self.refused(kernel, TooMany, acted, ("ann", "send", 2, "", (1, 1, 1, 1, 1)))
        self.refused(kernel, Empty, acted, ("ann", "hear", 2))

    def test_deeds_that_refuse(self):
        kernel = with_cell_and_door()
        acted(kernel, ("ann", "do", 1, "write", 10 ** 12))
        self.refused(kernel, TooGreat, acted, ("ann", "do", 1, "add", 1))
        for count in range(8):
            acted(kernel, ("ann", "send", 2, ""))
        self.refused(kernel, Full, acted, ("ann", "send", 2, ""))

    def test_what_is_handed_in_stays_and_may_be_changed(self):
        kernel = with_cell_and_door()
        slots = [1, 0]
        row = ("ann", "send", 2, "hi", slots)
        acted(kernel, row)
        self.assertEqual(row, ("ann", "send", 2, "hi", [1, 0]))
        ahead = whole(kernel)
        slots.clear()
        self.assertEqual(whole(kernel), ahead)

    def test_what_is_told_is_the_askers_own(self):
        kernel = with_cell_and_door()
        acted(kernel, ("ann", "send", 2, "hi", (1,)))
        told = acted(kernel, ("ann", "hear", 2))
        ahead = whole(kernel)
        told[1].append(9)
        self.assertEqual(whole(kernel), ahead)


class PlayedTest(unittest.TestCase):
    def test_no_rows(self):
        told = played("ann", [])
        self.assertIs(type(told), tuple)
        self.assertEqual(len(told), 2)
        self.assertIsInstance(told[0], Kernel)
        self.assertEqual(whole(told[0]), whole(begun("ann")))
        self.assertEqual(told[1], [])

    def test_what_came_of_each(self):
        kernel, outcomes = played("ann", [
            ("ann", "start", "bob"),
            ("ann", "make", "door"),
            ("ann", "make", "cell"),
            ("ann", "hand", 1, "bob", 9),
            ("bob", "send", 0, "no"),
            ("ann", "send", 1, "hi", [2, 0], 33),
            ("bob", "hear", 0),
            ("bob", "do", 1, "write", 5),
            ("bob", "do", 1, "read"),
            ("ann", "do", 2, "write", 7),
            ("bob", "do", 1, "read"),
            ("bob", "do", 1, "kind"),
            ("ann", "back", 2),
            ("bob", "do", 1, "read"),
            ["bob", "hear", 0],
            ("ann", "do", 0, "end"),
            ("bob", "hear", 0),
            ("ann", "give", 1),
        ])
        self.assertEqual(outcomes, [
            ("told", 0), ("told", 1), ("told", 2), ("told", 0), ("refused", "Lacks send"), ("told", 1),
            ("told", ("hi", [1, 2])), ("refused", "Lacks put"), ("told", 0), ("told", 0), ("told", 7),
            ("told", "cell"), ("told", 1), ("refused", "NoHandle"), ("refused", "NoRow"), ("told", 1),
            ("refused", "NoTask"), ("told", 1),
        ])
        for outcome in outcomes:
            self.assertIs(type(outcome), tuple)
        self.assertEqual(kernel.tasks.running(), ["ann"])
        self.assertEqual(kernel.things[2].told(), ("cell", 7))
        self.assertEqual(kernel.tree.kept(), [2])

    def test_each_refusal(self):
        _, outcomes = played("ann", [("ann", "make", "door"), ("ann", "make", "cell"), ("ann", "start", "bob"),
                                     ("ann", "narrow", 1, 3), ("ann", "do", 1, "write", 10 ** 12)] +
                             [("ann", "send", 0, "")] * 8)
        self.assertEqual([word for word, _ in outcomes], ["told"] * 13)
        for row, word in (
            (("ann", "narrow", 1, 64), "NoRights"), (("ann", "start", "B"), "NoName"),
            (("ann", "do", 1, "write", 10 ** 12 + 1), "NoValue"), (("ann", "send", 0, "a" * 21), "NoWords"),
            (("ann", "make", "post"), "NoKind"), (("zed", "make", "cell"), "NoTask"), (("ann", "back", 9), "NoHandle"),
            (("ann", "back"), "NoRow"), (("ann", "start", "ann"), "Taken"),
            (("ann", "send", 0, "", [0] * 5), "TooMany"), (("ann", "do", 1, "add", 1), "TooGreat"),
            (("ann", "send", 0, ""), "Full"), (("ann", "do", 1, "fly"), "NoDeed"), (("ann", "hear", 1), "NoDeed"),
            (("ann", "narrow", 1, 63), "Lacks send hear end"), (("ann", "narrow", 1, 36), "Lacks send"),
            (("ann", "hand", 3, "bob"), "Lacks pass"), (("ann", "hand", 3, "bob", 7), "Lacks send pass"),
            (("ann", "send", 0, "", [1, 3]), "Lacks pass"),
        ):
            rows = [("ann", "make", "door"), ("ann", "make", "cell"), ("ann", "start", "bob"),
                    ("ann", "narrow", 1, 3), ("ann", "do", 1, "write", 10 ** 12)] + [("ann", "send", 0, "")] * 8
            kernel, outcomes = played("ann", rows + [row])
            self.assertEqual(outcomes[-1], ("refused", word), row)
            self.assertEqual(whole(kernel), whole(played("ann", rows)[0]))
        self.assertEqual(played("ann", [("ann", "make", "door"), ("ann", "hear", 0)])[1][-1], ("refused", "Empty"))

    def test_rows_of_any_kind(self):
        rows = [ODD, None, True, 7, "ann make cell", [], (), ("ann",), ("ann", ODD, 1), ("ann", "make", ODD),
                (ODD, "make", "cell"), {"ann": 1}]
        kernel, outcomes = played("ann", rows)
        self.assertEqual(outcomes, [("refused", "NoRow")] * 9 + [("refused", "NoKind"), ("refused", "NoTask"),
                                                                 ("refused", "NoRow")])
        self.assertEqual(whole(kernel), whole(begun("ann")))

    def test_no_name(self):
        for name in NO_NAMES:
            for rows in ([], [("ann", "make", "cell")], [()]):
                with self.assertRaises(NoName) as caught:
                    played(name, rows)
                self.assertIs(type(caught.exception), NoName)

    def test_what_is_handed_in_stays_and_may_be_changed(self):
        slots = [1]
        rows = [("ann", "make", "door"), ("ann", "make", "cell"), ("ann", "send", 0, "a", slots), ("ann", "fly"),
                ("ann", "hear", 0)]
        ahead = copy.deepcopy(rows)
        kernel, outcomes = played("ann", rows)
        self.assertEqual(rows, ahead)
        behind = whole(kernel)
        slots.append(7)
        rows.clear()
        self.assertEqual(whole(kernel), behind)
        self.assertEqual(outcomes, [("told", 0), ("told", 1), ("told", 1), ("refused", "NoRow"), ("told", ("a", [2]))])

    def test_what_is_told_is_the_askers_own(self):
        rows = [("ann", "make", "door"), ("ann", "send", 0, "a", [0]), ("ann", "hear", 0)]
        kernel, outcomes = played("ann", rows)
        ahead = whole(kernel)
        outcomes[2][1][1].clear()
        outcomes.clear()
        self.assertEqual(whole(kernel), ahead)
        again, fresh = played("ann", rows)
        self.assertEqual(fresh, [("told", 0), ("told", 1), ("told", ("a", [1]))])
        acted(again, ("ann", "give", 0))
        self.assertEqual(whole(kernel), ahead)
        self.assertEqual(fresh, [("told", 0), ("told", 1), ("told", ("a", [1]))])

    def test_the_same_rows_tell_the_same(self):
        rows = [("ann", "start", "bob"), ("ann", "hand", 0, "bob"), ("bob", "do", 0, "end"), ("bob", "back", 0)]
        first, second = played("ann", rows), played("ann", rows)
        self.assertEqual(first[1], [("told", 0), ("told", 0), ("told", 1), ("refused", "NoTask")])
        self.assertEqual(first[1], second[1])
        self.assertEqual(whole(first[0]), whole(second[0]))

    def test_a_task_may_end_itself_and_all_the_others(self):
        kernel, outcomes = played("ann", [("ann", "start", "bob"), ("bob", "start", "cid"), ("ann", "do", 0, "end", 0),
                                          ("cid", "make", "cell")])
        self.assertEqual(outcomes, [("told", 0), ("told", 0), ("told", 2), ("refused", "NoTask")])
        self.assertEqual(kernel.tasks.running(), ["ann"])


class RefusalWordTest(unittest.TestCase):
    def test_those_of_one_text(self):
        for name in OF_ONE_TEXT:
            self.assertEqual(refusal_word(getattr(errors, name)("so it is")), name)

    def test_no_deed(self):
        for deed in ("fly", "", None, ODD):
            self.assertEqual(refusal_word(NoDeed(deed)), "NoDeed")

    def test_lacks(self):
        words = ["look", "put", "send", "hear", "end", "pass"]
        for missing in range(1, 64):
            expected = [word for at, word in enumerate(words) if missing & 2 ** at]
            self.assertEqual(refusal_word(Lacks(missing)), "Lacks " + " ".join(expected))

    def test_all_sixteen_classes(self):
        found = [name for name, one in vars(errors).items() if isinstance(one, type) and issubclass(one, PassError)]
        self.assertEqual(sorted(found), sorted(OF_ONE_TEXT + ("NoDeed", "Lacks", "PassError")))
        self.assertEqual(refusal_word(PassError("any")), "PassError")


if __name__ == "__main__":
    unittest.main()
