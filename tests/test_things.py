"""Promises 5 and 6: cells, lines, doors and posts."""

import unittest

from passkeep.errors import Empty, Full, NoDeed, TooGreat
from passkeep.things import Cell, Door, Line, Post, Thing

LOOK, PUT, SEND, HEAR, END = 1, 2, 4, 8, 16
TOP = 10 ** 12

NEEDS = {
    "cell": {"kind": 0, "read": LOOK, "write": PUT, "add": LOOK + PUT},
    "line": {"kind": 0, "push": PUT, "pull": LOOK + PUT, "count": LOOK},
    "door": {"kind": 0, "count": LOOK, "send": SEND, "hear": HEAR},
    "post": {"kind": 0, "state": LOOK, "end": END},
}
FITS = {"cell": LOOK + PUT, "line": LOOK + PUT, "door": LOOK + SEND + HEAR, "post": LOOK + END}
TOLD = {"cell": ("cell", 0), "line": ("line",), "door": ("door", 0), "post": ("post", "ann", True)}


def each_thing(number=3):
    return {"cell": Cell(number), "line": Line(number), "door": Door(number), "post": Post(number, "ann")}


class OddKey:
    def __hash__(self):
        raise RuntimeError("not to be asked")

    def __eq__(self, other):
        raise RuntimeError("not to be asked")


class EveryThingTest(unittest.TestCase):
    def test_each_stands_under_thing(self):
        for one in (Cell, Line, Door, Post):
            self.assertTrue(issubclass(one, Thing))
        self.assertEqual(Thing(7).number, 7)

    def test_number_kind_fits_and_told(self):
        for number in (0, 1, 39, 1000):
            for kind, thing in each_thing(number).items():
                self.assertEqual(thing.number, number)
                self.assertEqual(thing.kind(), kind)
                self.assertEqual(thing.fits(), FITS[kind])
                self.assertEqual(thing.told(), TOLD[kind])
                self.assertIs(type(thing.told()), tuple)

    def test_needs_of_each_deed(self):
        for kind, thing in each_thing().items():
            for deed, needed in NEEDS[kind].items():
                self.assertEqual(thing.needs(deed), needed, (kind, deed))

    def test_no_deed_of_texts_that_are_none(self):
        deeds = sorted({deed for needs in NEEDS.values() for deed in needs})
        for kind, thing in each_thing().items():
            for deed in deeds + ["", " ", "fly", "Kind", "kind ", " kind", "kind\n", "cell", "told", "number", "needs"]:
                if deed not in NEEDS[kind]:
                    self.refuses_deed(thing, deed)
                    self.assertEqual(thing.told(), TOLD[kind])

    def test_no_deed_of_any_kind(self):
        for thing in each_thing().values():
            for deed in (None, True, False, 0, 1, -1, 1.5, [], ["kind"], (), ("kind",), {}, {"kind": 0}, {"kind"},
                         b"kind", object(), str, OddKey(), 10 ** 5000):
                self.refuses_deed(thing, deed)

    def refuses_deed(self, thing, deed):
        with self.assertRaises(NoDeed) as caught:
            thing.needs(deed)
        self.assertIs(caught.exception.deed, deed)

    def test_the_deed_kind(self):
        for kind, thing in each_thing().items():
            self.assertEqual(thing.did("kind", 0), kind)
            self.assertEqual(thing.did("kind", 55), kind)
            self.assertEqual(thing.told(), TOLD[kind])

    def test_things_keep_to_themselves(self):
        for one, other in zip(each_thing().values(), each_thing().values()):
            ahead = other.told()
            for deed in ("write", "push", "send", "end"):
                if deed in NEEDS[one.kind()]:
                    one.did(deed, 4)
            self.assertNotEqual(one.told(), ahead)
            self.assertEqual(other.told(), ahead)


class CellTest(unittest.TestCase):
    def test_read_write_and_add(self):
        cell = Cell(0)
        self.assertEqual(cell.did("read", 0), 0)
        self.assertEqual(cell.did("write", 5), 0)
        self.assertEqual(cell.told(), ("cell", 5))
        self.assertEqual(cell.did("write", -7), 5)
        self.assertEqual(cell.did("read", 99), -7)
        self.assertEqual(cell.told(), ("cell", -7))
        self.assertEqual(cell.did("add", 10), 3)
        self.assertEqual(cell.told(), ("cell", 3))
        self.assertEqual(cell.did("add", -4), -1)
        self.assertEqual(cell.did("add", 0), -1)
        self.assertEqual(cell.did("read", 0), -1)

    def test_the_bounds_of_add(self):
        for start, value in ((TOP, 0), (TOP - 1, 1), (0, TOP), (-TOP, 0), (1 - TOP, -1), (0, -TOP), (TOP, -TOP)):
            cell = Cell(0)
            cell.did("write", start)
            self.assertEqual(cell.did("add", value), start + value)
            self.assertEqual(cell.told(), ("cell", start + value))

    def test_too_great_changes_nothing(self):
        for start, value in ((TOP, 1), (1, TOP), (TOP, TOP), (-TOP, -1), (-1, -TOP), (-TOP, -TOP)):
            cell = Cell(0)
            cell.did("write", start)
            with self.assertRaises(TooGreat):
                cell.did("add", value)
            self.assertEqual(cell.told(), ("cell", start))
            self.assertEqual(cell.did("read", 0), start)


class LineTest(unittest.TestCase):
    def test_first_in_first_out(self):
        line = Line(0)
        self.assertEqual(line.did("count", 0), 0)
        self.assertEqual([line.did("push", value) for value in (4, 4, -2)], [1, 2, 3])
        self.assertEqual(line.told(), ("line", 4, 4, -2))
        self.assertEqual(line.did("count", 8), 3)
        self.assertEqual(line.did("pull", 0), 4)
        self.assertEqual(line.told(), ("line", 4, -2))
        self.assertEqual(line.did("push", 9), 3)
        self.assertEqual([line.did("pull", 0) for _ in range(3)], [4, -2, 9])
        self.assertEqual(line.told(), ("line",))

    def test_full_at_nine(self):
        line = Line(0)
        self.assertEqual([line.did("push", value) for value in range(9)], list(range(1, 10)))
        for _ in range(2):
            with self.assertRaises(Full):
                line.did("push", 9)
            self.assertEqual(line.told(), ("line", 0, 1, 2, 3, 4, 5, 6, 7, 8))
            self.assertEqual(line.did("count", 0), 9)
        self.assertEqual(line.did("pull", 0), 0)
        self.assertEqual(line.did("push", 9), 9)
        self.assertEqual(line.told(), ("line", 1, 2, 3, 4, 5, 6, 7, 8, 9))

    def test_empty(self):
        line = Line(0)
        for _ in range(2):
            with self.assertRaises(Empty):
                line.did("pull", 0)
            self.assertEqual(line.told(), ("line",))
        line.did("push", 1)
        line.did("pull", 0)
        with self.assertRaises(Empty):
            line.did("pull", 0)

    def test_what_was_told_stays(self):
        line = Line(0)
        line.did("push", 1)
        told = line.told()
        line.did("push", 2)
        self.assertEqual(told, ("line", 1))


class DoorTest(unittest.TestCase):
    def test_first_in_first_out(self):
        door = Door(0)
        letters = [["a"], {}, None, "text", ()]
        self.assertEqual(door.did("count", 0), 0)
        self.assertEqual([door.did("send", letter) for letter in letters], [1, 2, 3, 4, 5])
        self.assertEqual(door.told(), ("door", 5))
        self.assertEqual(door.did("count", 0), 5)
        for at, letter in enumerate(letters):
            self.assertIs(door.did("hear", 0), letter)
            self.assertEqual(door.told(), ("door", 4 - at))

    def test_letters_are_the_very_things(self):
        door = Door(0)
        self.assertEqual(door.letters(), [])
        letters = [["a"], ["a"], object()]
        for letter in letters:
            door.did("send", letter)
        told = door.letters()
        self.assertIs(type(told), list)
        self.assertEqual(len(told), 3)
        for one, other in zip(told, letters):
            self.assertIs(one, other)

    def test_the_list_of_letters_is_the_askers_own(self):
        door = Door(0)
        door.did("send", "one")
        told = door.letters()
        door.did("send", "two")
        self.assertEqual(told, ["one"])
        told.clear()
        self.assertEqual(door.letters(), ["one", "two"])
        self.assertEqual(door.told(), ("door", 2))
        kept = door.letters()
        door.did("hear", 0)
        self.assertEqual(kept, ["one", "two"])

    def test_full_at_eight(self):
        door = Door(0)
        self.assertEqual([door.did("send", value) for value in range(8)], list(range(1, 9)))
        for _ in range(2):
            with self.assertRaises(Full):
                door.did("send", 8)
            self.assertEqual(door.told(), ("door", 8))
            self.assertEqual(door.letters(), [0, 1, 2, 3, 4, 5, 6, 7])
        self.assertEqual(door.did("hear", 0), 0)
        self.assertEqual(door.did("send", 8), 8)

    def test_empty(self):
        door = Door(0)
        for _ in range(2):
            with self.assertRaises(Empty):
                door.did("hear", 0)
            self.assertEqual(door.told(), ("door", 0))


class PostTest(unittest.TestCase):
    def test_runs_until_it_is_ended(self):
        post = Post(0, "bob")
        self.assertEqual(post.told(), ("post", "bob", True))
        self.assertEqual(post.did("state", 0), "runs")
        for _ in range(2):
            self.assertEqual(post.did("end", 0), "bob")
            self.assertEqual(post.told(), ("post", "bob", False))
            self.assertIs(post.told()[2], False)
            self.assertEqual(post.did("state", 0), "ended")
            self.assertEqual(post.did("kind", 0), "post")

    def test_runs_is_true_at_first(self):
        self.assertIs(Post(0, "bob").told()[2], True)


if __name__ == "__main__":
    unittest.main()
