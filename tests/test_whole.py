"""Promise 1 over the whole program."""

import copy
import unittest

from kernels import KernelCase, handle_facts, whole, with_tasks
from passkeep.book import book, can, chain_of, could, given_to, who_can
from passkeep.deeds import call_back, do, give_up
from passkeep.desk import answers
from passkeep.errors import Lacks, PassError
from passkeep.kernel import begun, hand, handle_at, make, narrow
from passkeep.letters import Letter, hear, send
from passkeep.log import acted, played
from passkeep.showing import shown
from passkeep.tree import Handle
from plain import PlainKernel
from walks import Walk

NEEDS = {"cell": {"read": 1, "write": 2, "add": 3}, "line": {"push": 2, "pull": 3, "count": 1},
         "door": {"count": 1}, "post": {"state": 1, "end": 16}}
FITS = {"cell": 35, "line": 35, "door": 45, "post": 49}


def told_or_none(kernel, row):
    try:
        return acted(kernel, row)
    except PassError:
        return None


def all_that_is_told(kernel):
    told = [book(kernel), shown(kernel), kernel.tree.kept(), kernel.tasks.running(), kernel.tasks.names()]
    for thing in kernel.things:
        told += [who_can(kernel, thing, 0), who_can(kernel, thing, 1), list(kernel.things[thing].told())]
        if kernel.things[thing].kind() == "door":
            told.append(kernel.things[thing].letters())
    for name in kernel.tasks.running():
        told += [kernel.tasks.slots(name), kernel.tasks.made_by(name)]
        for slot, number in kernel.tasks.slots(name):
            told += [chain_of(kernel, name, slot), given_to(kernel, name, slot), handle_at(kernel, name, slot)]
            told += [kernel.tree.below(number), kernel.tree.chain(number), kernel.tree.handle(number)]
    return told


def plainly(told):
    if isinstance(told, (list, tuple)):
        return [plainly(one) for one in told]
    if isinstance(told, dict):
        return [(key, plainly(value)) for key, value in told.items()]
    if isinstance(told, Handle):
        return handle_facts(told)
    return (told.words, told.parts) if isinstance(told, Letter) else told


def spoil(told):
    if isinstance(told, list):
        told.reverse()
        told.append("spoilt")
    elif isinstance(told, dict):
        for page in told.values():
            page.clear()
        told.clear()
    else:
        told.rights, told.giver, told.holder, told.number, told.thing = 63, 0, "spoilt", 0, 0


class OwnTest(KernelCase):
    def test_nothing_done_later_changes_what_was_told(self):
        for seed in range(6):
            walk, kernel, plain = Walk(seed), begun("ta"), PlainKernel("ta")
            kept = []
            for step in range(120):
                row = walk.row(plain)
                plain.came_of(row)
                told = told_or_none(kernel, row)
                kept.append((told, plainly(told)))
                if step % 30 == 29:
                    asked = all_that_is_told(kernel)
                    kept.append((asked, plainly(asked)))
            for told, then in kept:
                self.assertEqual(plainly(told), then)

    def test_what_is_done_to_what_was_told_changes_nothing(self):
        for seed in range(6):
            walk, kernel, plain = Walk(seed), begun("ta"), PlainKernel("ta")
            for _ in range(90):
                row = walk.row(plain)
                plain.came_of(row)
                told = told_or_none(kernel, row)
                if isinstance(told, tuple):
                    spoil(told[1])
            ahead = whole(kernel)
            self.assertEqual(ahead, plain.whole())
            for told in all_that_is_told(kernel):
                spoil(told)
            self.assertEqual(whole(kernel), ahead)
            self.assertEqual(shown(kernel), plain.shown())

    def test_what_is_handed_in_stays_as_it_was_and_may_be_changed(self):
        for seed in range(6):
            walk, kernel, plain = Walk(seed), begun("ta"), PlainKernel("ta")
            for _ in range(150):
                row = walk.row(plain)
                then = copy.deepcopy(row)
                told_or_none(kernel, row)
                self.assertEqual(row, then)
                for one in row:
                    if isinstance(one, list):
                        one.append("spoilt")
                plain.came_of(then)
            self.assertEqual(whole(kernel), plain.whole())


class RefusedTest(KernelCase):
    def test_questions_and_refusals_change_nothing(self):
        kernel = with_tasks(["bob"])
        for kind in ("cell", "door"):
            make(kernel, "ann", kind)
        send(kernel, "ann", 2, "a", (1,))
        for function, arguments in (
            (can, ("zed", 0)), (can, ("ann", 9)), (who_can, (9, 1)), (who_can, (0, 64)), (chain_of, ("zed", 0)),
            (chain_of, ("ann", 9)), (given_to, ("ann", 9)), (could, ("zed", 0)), (could, ("ann", 9)),
            (could, ("ann", 0, ["zed"])), (acted, (("ann", "fly"),)), (acted, (("ann", "narrow", 1, 63),)),
            (acted, (("bob", "hear", 0),)), (acted, (("ann", "do", 1, "add", 10 ** 13),)),
        ):
            self.refused(kernel, self.kind_of(function, kernel, arguments), function, *arguments)
        ahead = whole(kernel)
        book(kernel), shown(kernel), can(kernel, "ann", 1), could(kernel, "bob", 1, ["ann"]), who_can(kernel, 1, 1)
        chain_of(kernel, "ann", 1), given_to(kernel, "ann", 1)
        self.assertEqual(whole(kernel), ahead)

    def kind_of(self, function, kernel, arguments):
        with self.assertRaises(PassError) as caught:
            function(copy.deepcopy(kernel), *arguments)
        return type(caught.exception)

    def test_two_kernels_have_nothing_to_do_with_one_another(self):
        rows = [("ann", "start", "bob"), ("ann", "make", "cell"), ("ann", "hand", 1, "bob")]
        first, second = played("ann", rows)[0], played("ann", rows)[0]
        ahead = whole(second)
        for row in (("ann", "do", 1, "write", 5), ("ann", "back", 1), ("ann", "do", 0, "end"), ("ann", "make", "door")):
            acted(first, row)
        answers("ann", "ann make cell\nann give 0")
        self.assertEqual(whole(second), ahead)


class ChainTest(KernelCase):
    """No task does a deed that no chain of handing on gave it."""

    def noted(self, kernel, row, told, givings, senders):
        """Who gave what to whom, from what was asked and told alone: a pair for each new handle's number."""
        task, word = row[:2]
        if told is None:
            return
        if word in ("make", "start"):
            givings[kernel.tasks.at(task, told)] = ("", task)
        elif word == "narrow":
            givings[kernel.tasks.at(task, told)] = (task, task)
        elif word == "hand":
            givings[kernel.tasks.at(row[3], told)] = (task, row[3])
        elif word == "send":
            letter = kernel.things[handle_at(kernel, task, row[2]).thing].letters()[-1]
            senders.update({part: task for part in letter.parts})
        elif word == "hear":
            for slot in told[1]:
                if slot is not None:
                    number = kernel.tasks.at(task, slot)
                    givings[number] = (senders[number], task)

    def each_chain_is_one_of_givings(self, kernel, givings):
        for name in kernel.tasks.running():
            for slot, number in kernel.tasks.slots(name):
                chain = kernel.tree.chain(number)
                holders = [holder for holder, _ in chain_of(kernel, name, slot)]
                self.assertEqual([givings[one] for one in chain], list(zip([""] + holders, holders)))
                rights = [had for _, had in chain_of(kernel, name, slot)]
                for above, lower in zip(rights, rights[1:]):
                    self.assertEqual(above & lower, lower)
                kind = kernel.things[handle_at(kernel, name, slot).thing].kind()
                self.assertEqual(rights[0], FITS[kind])
                self.assertEqual(holders[-1], name)

    def test_each_handle_in_a_slot_came_by_givings(self):
        for seed in range(9):
            walk, kernel, plain = Walk(seed), begun("ta"), PlainKernel("ta")
            givings, senders = {}, {}
            for step in range(200):
                row = walk.row(plain)
                plain.came_of(row)
                self.noted(kernel, row, told_or_none(kernel, row), givings, senders)
                if step % 5 == 0:
                    self.each_chain_is_one_of_givings(kernel, givings)

    def test_no_deed_without_a_right_to_it(self):
        for seed in range(9):
            walk, kernel, plain = Walk(seed), begun("ta"), PlainKernel("ta")
            for _ in range(250):
                row = walk.row(plain)
                could_do = self.rights_on(kernel, row)
                plain.came_of(row)
                if told_or_none(kernel, row) is not None and row[1] == "do":
                    self.assertEqual(could_do[1] & could_do[0], could_do[1], row)

    def rights_on(self, kernel, row):
        """What the book says of the task, and what the deed needs."""
        if row[1] != "do" or row[0] not in kernel.tasks.running():
            return (0, 0)
        pairs = dict(kernel.tasks.slots(row[0]))
        if type(row[2]) is not int or row[2] not in pairs:
            return (0, 0)
        thing = kernel.tree.handle(pairs[row[2]]).thing
        return (can(kernel, row[0], thing), NEEDS[kernel.things[thing].kind()].get(row[3], 0))


class CalledBackTest(KernelCase):
    """What is called back is gone for all who had it from there, at once."""

    def test_in_many_walks(self):
        count = 0
        for seed in range(12):
            walk, kernel, plain = Walk(seed), begun("ta"), PlainKernel("ta")
            for _ in range(150):
                row = walk.row(plain)
                plain.came_of(row)
                told_or_none(kernel, row)
            for name in kernel.tasks.running():
                for slot, number in kernel.tasks.slots(name):
                    count += self.calls_back(copy.deepcopy(kernel), name, slot, number)
        self.assertGreater(count, 100)

    def calls_back(self, kernel, name, slot, number):
        below = kernel.tree.below(number)
        others = [one for one in kernel.tree.kept() if one not in below]
        self.assertEqual(len(given_to(kernel, name, slot)), len(below))
        self.assertEqual(call_back(kernel, name, slot), len(below))
        self.assertEqual(given_to(kernel, name, slot), [])
        self.assertEqual(kernel.tree.kept(), others)
        for task in kernel.tasks.running():
            for _, had in kernel.tasks.slots(task):
                self.assertNotIn(had, below)
        return len(below)

    def test_through_tasks_and_letters(self):
        kernel = with_tasks(["bob", "cid", "dan"])
        make(kernel, "ann", "cell")
        make(kernel, "ann", "door")
        for name in ("bob", "cid", "dan"):
            hand(kernel, "ann", 4, name)
        hand(kernel, "ann", 3, "bob")
        send(kernel, "bob", 0, "", (1,))
        hear(kernel, "cid", 0)
        hand(kernel, "cid", 1, "dan", 35)
        send(kernel, "dan", 0, "", (1,))
        self.assertEqual([can(kernel, name, 3) for name in ("ann", "bob", "cid", "dan")], [35, 35, 35, 35])
        self.assertEqual(do(kernel, "dan", 1, "write", 9), 0)
        self.assertEqual(call_back(kernel, "bob", 1), 3)
        self.assertEqual([can(kernel, name, 3) for name in ("ann", "bob", "cid", "dan")], [35, 35, 0, 0])
        self.assertEqual(hear(kernel, "cid", 0), ("", [None]))
        self.assertEqual(give_up(kernel, "ann", 3), 2)
        self.assertEqual(who_can(kernel, 3, 0), [])
        self.assertEqual(kernel.things[3].told(), ("cell", 9))


class LacksTest(KernelCase):
    """Every refusal for lack of rights names just the rights that are missing."""

    def had(self, kind, rights):
        """Ann's narrower handle to a thing of a kind, in slot 2; a door in slot 1, bob's post in slot 0."""
        kernel = with_tasks(["bob"])
        make(kernel, "ann", "door")
        if kind in ("cell", "line"):
            make(kernel, "ann", kind)
        full = {"post": 0, "door": 1}.get(kind, 2)
        return kernel, narrow(kernel, "ann", full, rights)

    def names_just(self, kernel, needed, had, function, *arguments):
        if needed & ~had:
            self.lacks(kernel, needed & ~had, function, *arguments)
        else:
            try:
                function(kernel, *arguments)
            except PassError as error:
                self.assertNotIsInstance(error, Lacks)

    def test_each_deed_with_each_rights(self):
        for kind in ("cell", "line", "door", "post"):
            for had in range(64):
                if had & FITS[kind] != had:
                    continue
                for deed, needed in NEEDS[kind].items():
                    kernel, slot = self.had(kind, had)
                    self.names_just(kernel, needed, had, do, "ann", slot, deed)
                    kernel, slot = self.had(kind, had)
                    self.names_just(kernel, needed, had, acted, ("ann", "do", slot, deed))
                kernel, slot = self.had(kind, had)
                self.names_just(kernel, 0, had, do, "ann", slot, "kind")
                for asked in (0, 1, 3, 12, 16, 33, 63):
                    kernel, slot = self.had(kind, had)
                    self.names_just(kernel, asked, had, narrow, "ann", slot, asked)
                    kernel, slot = self.had(kind, had)
                    self.names_just(kernel, asked | 32, had, hand, "ann", slot, "bob", asked)
                kernel, slot = self.had(kind, had)
                self.names_just(kernel, 32, had, hand, "ann", slot, "bob")
                self.names_just(kernel, 32, had, send, "ann", 1, "", (slot,))
                if kind == "door":
                    kernel, slot = self.had(kind, had)
                    self.names_just(kernel, 4, had, send, "ann", slot, "")
                    self.names_just(kernel, 8, had, hear, "ann", slot)

    def test_the_words_at_the_desk(self):
        rows = ("ann make cell", "ann narrow 0 put", "ann do 1 add 1", "ann narrow 1 look hear",
                "ann hand 1 ann look end", "ann do 1 read", "ann narrow 0 look send hear end pass")
        self.assertEqual(answers("ann", "\n".join(rows)), [
            "slot 0", "slot 1", "refused: Lacks look", "refused: Lacks look hear", "refused: Lacks look end pass",
            "refused: Lacks look", "refused: Lacks send hear end"])


if __name__ == "__main__":
    unittest.main()
