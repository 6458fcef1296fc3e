"""Promises 7 to 10: the tree of handles."""

import unittest

from passkeep.errors import Lacks, NoHandle, TooMany
from passkeep.tree import Handle, Tree

NO_NUMBERS = (True, False, None, "", "0", 0.0, 1.0, [], [0], (), (0,), {}, {0: 0}, {0}, b"0", object(), int)


def facts(handle):
    return (handle.number, handle.thing, handle.rights, handle.giver, handle.holder)


def all_of(tree):
    return [facts(tree.handle(number)) for number in tree.kept()]


def chain_of_forty():
    tree = Tree()
    number = tree.rooted(0, 63, "a")
    for _ in range(39):
        number = tree.derived(number, 63, "a")
    return tree


# A small tree: 0 has 1, 2 and 6 right below, 1 has 3 and 5, 3 has 7, 2 has 4; 8 stands alone.
def small_tree():
    tree = Tree()
    tree.rooted(5, 63, "ann")
    for giver in (0, 0, 1, 2, 1, 0, 3):
        tree.derived(giver, 63, "bob")
    tree.rooted(6, 3, "cy")
    return tree


class HandlesTest(unittest.TestCase):
    def test_rooted(self):
        tree = Tree()
        self.assertEqual(tree.rooted(4, 35, "ann"), 0)
        self.assertEqual(tree.rooted(4, 0, ""), 1)
        self.assertEqual(facts(tree.handle(0)), (0, 4, 35, None, "ann"))
        self.assertEqual(facts(tree.handle(1)), (1, 4, 0, None, ""))
        self.assertIsInstance(tree.handle(0), Handle)

    def test_derived(self):
        tree = Tree()
        tree.rooted(4, 35, "ann")
        self.assertEqual(tree.derived(0, 33, "bob"), 1)
        self.assertEqual(tree.derived(1, 0, ""), 2)
        self.assertEqual(tree.derived(0, 35, "ann"), 3)
        self.assertEqual(all_of(tree), [
            (0, 4, 35, None, "ann"), (1, 4, 33, 0, "bob"), (2, 4, 0, 1, ""), (3, 4, 35, 0, "ann")])

    def test_a_tree_keeps_to_itself(self):
        one, other = Tree(), Tree()
        one.rooted(0, 1, "a")
        one.derived(0, 1, "a")
        self.assertEqual(other.kept(), [])
        self.assertEqual(other.rooted(0, 1, "a"), 0)
        self.assertEqual(other.below(0), [])

    def test_numbers_are_told_in_order_and_never_again(self):
        tree = Tree()
        self.assertEqual([tree.rooted(0, 63, "a") for _ in range(3)], [0, 1, 2])
        self.assertEqual([tree.derived(2, 63, "a") for _ in range(3)], [3, 4, 5])
        tree.cut(2)
        self.assertEqual(tree.kept(), [0, 1])
        self.assertEqual(tree.rooted(0, 63, "a"), 6)
        tree.cut(6)
        self.assertEqual(tree.derived(0, 63, "a"), 7)
        for number in (0, 1):
            tree.cut(number)
        self.assertEqual(tree.kept(), [])
        self.assertEqual(tree.rooted(0, 63, "a"), 8)

    def test_a_refusal_takes_no_number(self):
        tree = chain_of_forty()
        tree.rooted(0, 1, "a")
        for number, rights in ((99, 1), (40, 2), (39, 63)):
            with self.assertRaises((NoHandle, Lacks, TooMany)):
                tree.derived(number, rights, "a")
        self.assertEqual(tree.rooted(0, 1, "a"), 41)

    def test_a_handle_told_is_new_each_time(self):
        tree = Tree()
        tree.rooted(4, 35, "ann")
        self.assertIsNot(tree.handle(0), tree.handle(0))

    def test_a_handle_told_is_the_askers_own(self):
        tree = small_tree()
        ahead = all_of(tree)
        for number in tree.kept():
            told = tree.handle(number)
            told.number, told.thing, told.rights, told.giver, told.holder = 70, 71, 0, 72, "zed"
        self.assertEqual(all_of(tree), ahead)
        self.assertEqual(tree.chain(7), [0, 1, 3, 7])
        self.assertEqual(tree.derived(7, 63, "a"), 9)

    def test_nothing_done_later_changes_a_handle_told(self):
        tree = small_tree()
        told = tree.handle(1)
        tree.held(1, "dan")
        self.assertEqual(facts(told), (1, 5, 63, 0, "bob"))
        tree.cut(0)
        self.assertEqual(facts(told), (1, 5, 63, 0, "bob"))

    def test_held(self):
        tree = small_tree()
        ahead = all_of(tree)
        self.assertIsNone(tree.held(2, "dan"))
        self.assertEqual(facts(tree.handle(2)), (2, 5, 63, 0, "dan"))
        tree.held(2, "")
        self.assertEqual(tree.handle(2).holder, "")
        tree.held(2, "bob")
        self.assertEqual(all_of(tree), ahead)


class RefusalsTest(unittest.TestCase):
    def each_refusal(self, tree, number):
        for ask in (
            tree.handle, tree.below, tree.chain, tree.cut,
            lambda one: tree.held(one, "zed"), lambda one: tree.derived(one, 1, "zed"),
        ):
            with self.assertRaises(NoHandle, msg=repr(number)):
                ask(number)

    def test_numbers_never_told(self):
        for number in (-1, -9, 9, 10, 10 ** 12, 10 ** 50):
            tree = small_tree()
            ahead = all_of(tree)
            self.each_refusal(tree, number)
            self.assertEqual(all_of(tree), ahead)

    def test_an_empty_tree(self):
        for number in (0, -1, 1) + NO_NUMBERS:
            self.each_refusal(Tree(), number)

    def test_what_is_no_number(self):
        tree = small_tree()
        ahead = all_of(tree)
        for number in NO_NUMBERS:
            self.each_refusal(tree, number)
        self.assertEqual(all_of(tree), ahead)

    def test_numbers_that_were_taken_out(self):
        tree = small_tree()
        for number in tree.cut(1):
            self.each_refusal(tree, number)
        self.assertEqual(tree.kept(), [0, 2, 4, 6, 8])

    def test_lacks_names_just_what_is_missing(self):
        for had in range(64):
            tree = Tree()
            tree.rooted(0, had, "a")
            for rights in range(64):
                lacking = sum(s for s in (1, 2, 4, 8, 16, 32) if rights // s % 2 and not had // s % 2)
                if lacking == 0:
                    self.assertEqual(tree.handle(tree.derived(0, rights, "b")).rights, rights)
                    continue
                ahead = len(tree.kept())
                with self.assertRaises(Lacks) as caught:
                    tree.derived(0, rights, "b")
                self.assertEqual(caught.exception.missing, lacking)
                self.assertEqual(len(tree.kept()), ahead)

    def test_lacks_is_of_the_handle_itself_not_of_its_giver(self):
        tree = Tree()
        tree.rooted(0, 63, "a")
        tree.derived(0, 5, "b")
        with self.assertRaises(Lacks) as caught:
            tree.derived(1, 7, "c")
        self.assertEqual(caught.exception.missing, 2)

    def test_the_fortieth_is_let_by_and_the_next_is_not(self):
        tree = chain_of_forty()
        self.assertEqual(tree.chain(39), list(range(40)))
        ahead = all_of(tree)
        for rights in (63, 0):
            with self.assertRaises(TooMany):
                tree.derived(39, rights, "a")
        self.assertEqual(all_of(tree), ahead)
        self.assertEqual(tree.derived(38, 63, "a"), 40)
        self.assertEqual(tree.chain(40), list(range(39)) + [40])
        with self.assertRaises(TooMany):
            tree.derived(40, 63, "a")

    def test_a_handle_may_have_many_right_below(self):
        tree = Tree()
        tree.rooted(0, 63, "a")
        self.assertEqual([tree.derived(0, 1, "a") for _ in range(100)], list(range(1, 101)))

    def test_the_order_of_refusals(self):
        tree = chain_of_forty()
        with self.assertRaises(NoHandle):
            tree.derived(40, 64, "a")
        tree = Tree()
        number = tree.rooted(0, 3, "a")
        for _ in range(39):
            number = tree.derived(number, 3, "a")
        with self.assertRaises(Lacks) as caught:
            tree.derived(number, 6, "a")
        self.assertEqual(caught.exception.missing, 4)
        with self.assertRaises(TooMany):
            tree.derived(number, 2, "a")


class WalksTest(unittest.TestCase):
    def test_below(self):
        tree = small_tree()
        told = {0: [1, 3, 7, 5, 2, 4, 6], 1: [3, 7, 5], 2: [4], 3: [7], 4: [], 5: [], 6: [], 7: [], 8: []}
        for number, listed in told.items():
            self.assertEqual(tree.below(number), listed)

    def test_chain(self):
        tree = small_tree()
        told = {0: [0], 1: [0, 1], 2: [0, 2], 3: [0, 1, 3], 4: [0, 2, 4], 5: [0, 1, 5], 6: [0, 6], 7: [0, 1, 3, 7],
                8: [8]}
        for number, listed in told.items():
            self.assertEqual(tree.chain(number), listed)

    def test_cut(self):
        told = {0: [0, 1, 2, 3, 4, 5, 6, 7], 1: [1, 3, 5, 7], 2: [2, 4], 3: [3, 7], 4: [4], 5: [5], 6: [6], 7: [7],
                8: [8]}
        for number, listed in told.items():
            tree = small_tree()
            ahead = all_of(tree)
            self.assertEqual(tree.cut(number), listed)
            self.assertEqual(all_of(tree), [one for one in ahead if one[0] not in listed])

    def test_below_behind_a_cut(self):
        tree = small_tree()
        tree.cut(1)
        self.assertEqual(tree.below(0), [2, 4, 6])
        self.assertEqual(tree.derived(2, 1, "a"), 9)
        self.assertEqual(tree.derived(0, 1, "a"), 10)
        self.assertEqual(tree.below(0), [2, 4, 9, 6, 10])
        tree.cut(4)
        self.assertEqual(tree.below(0), [2, 9, 6, 10])
        self.assertEqual(tree.cut(0), [0, 2, 6, 9, 10])
        self.assertEqual(tree.kept(), [8])

    def test_the_bottom_of_a_full_chain(self):
        tree = chain_of_forty()
        self.assertEqual(tree.below(0), list(range(1, 40)))
        self.assertEqual(tree.cut(20), list(range(20, 40)))
        self.assertEqual(tree.derived(19, 63, "a"), 40)
        self.assertEqual(tree.chain(40), list(range(20)) + [40])

    def test_kept(self):
        tree = small_tree()
        self.assertEqual(tree.kept(), [0, 1, 2, 3, 4, 5, 6, 7, 8])
        tree.cut(3)
        self.assertEqual(tree.kept(), [0, 1, 2, 4, 5, 6, 8])

    def test_lists_are_the_askers_own(self):
        tree = small_tree()
        for ask in (tree.kept, lambda: tree.below(0), lambda: tree.chain(7)):
            ahead = ask()
            told = ask()
            told.append(99)
            told.reverse()
            self.assertEqual(ask(), ahead)
            told.clear()
            self.assertEqual(ask(), ahead)
        gone = tree.cut(8)
        gone.append(0)
        self.assertEqual(tree.kept(), [0, 1, 2, 3, 4, 5, 6, 7])

    def test_nothing_done_later_changes_a_list_told(self):
        tree = small_tree()
        kept, below, chain, gone = tree.kept(), tree.below(0), tree.chain(7), tree.cut(2)
        tree.derived(0, 1, "a")
        tree.derived(7, 1, "a")
        tree.cut(0)
        self.assertEqual(kept, [0, 1, 2, 3, 4, 5, 6, 7, 8])
        self.assertEqual(below, [1, 3, 7, 5, 2, 4, 6])
        self.assertEqual(chain, [0, 1, 3, 7])
        self.assertEqual(gone, [2, 4])


class Plain:
    """The same tree told over again, as a bare list of rows that each walk goes through whole."""

    def __init__(self):
        self.rows = {}
        self.told = 0

    def new(self, thing, rights, giver, holder):
        self.rows[self.told] = (self.told, thing, rights, giver, holder)
        self.told += 1
        return self.told - 1

    def chain(self, number):
        giver = self.rows[number][3]
        return ([] if giver is None else self.chain(giver)) + [number]

    def below(self, number):
        found = []
        for one in sorted(self.rows):
            if self.rows[one][3] == number:
                found += [one] + self.below(one)
        return found

    def cut(self, number):
        gone = sorted(one for one in self.rows if number in self.chain(one))
        for one in gone:
            del self.rows[one]
        return gone


class ManyStepsTest(unittest.TestCase):
    """Promise 10, and all walks, behind each of many steps, against the plain telling."""

    def drawn(self, below):
        # A fixed row of numbers, the same in each run.
        self.state = (self.state * 1103515245 + 12345) % 2147483648
        return self.state // 65536 % below

    def step(self, tree, plain):
        number = self.drawn(plain.told + 2)
        rights = self.drawn(64)
        deed = self.drawn(9)
        if deed < 2:
            self.assertEqual(tree.rooted(number, rights | 33, "a"), plain.new(number, rights | 33, None, "a"))
        elif number not in plain.rows:
            with self.assertRaises(NoHandle):
                tree.derived(number, rights, "b") if deed < 8 else tree.cut(number)
        elif deed < 8:
            had = plain.rows[number]
            self.step_below(tree, plain, number, had[2] & rights if deed < 7 else rights, had)
        else:
            self.assertEqual(tree.cut(number), plain.cut(number))

    def step_below(self, tree, plain, number, rights, had):
        lacking = rights & (63 - had[2])
        if lacking:
            with self.assertRaises(Lacks) as caught:
                tree.derived(number, rights, "b")
            self.assertEqual(caught.exception.missing, lacking)
        elif len(plain.chain(number)) == 40:
            with self.assertRaises(TooMany):
                tree.derived(number, rights, "b")
        else:
            self.assertEqual(tree.derived(number, rights, "b"), plain.new(had[1], rights, number, "b"))

    def holds(self, tree, plain):
        self.assertEqual(all_of(tree), [plain.rows[one] for one in sorted(plain.rows)])
        for number in tree.kept():
            self.assertEqual(tree.below(number), plain.below(number))
            self.assertEqual(tree.chain(number), plain.chain(number))
            low = tree.handle(number)
            for above in tree.chain(number):
                high = tree.handle(above)
                self.assertEqual(low.thing, high.thing)
                self.assertEqual(low.rights & high.rights, low.rights)

    def test_many_steps(self):
        for seed in range(12):
            self.state = seed
            tree, plain = Tree(), Plain()
            for _ in range(80):
                self.step(tree, plain)
                self.holds(tree, plain)


if __name__ == "__main__":
    unittest.main()
