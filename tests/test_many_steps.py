"""Promises 1 and 14 to 30 behind each of many steps, against the same kernel told over again in plain rows."""

import unittest

from kernels import whole
from passkeep.book import book, can, chain_of, could, given_to, who_can
from passkeep.deeds import call_back, do, give_up
from passkeep.desk import answers
from passkeep.errors import Lacks, NoDeed, PassError
from passkeep.kernel import begun, hand, make, narrow, start
from passkeep.letters import hear, send
from passkeep.log import acted, played
from passkeep.showing import shown
from plain import PlainKernel, bits, words
from walks import Walk

FUNCTIONS = {"make": make, "start": start, "narrow": narrow, "hand": hand, "back": call_back, "give": give_up,
             "do": do, "send": send, "hear": hear}


def word_of(error):
    name = type(error).__name__
    if isinstance(error, Lacks):
        return name + " " + str(error.missing)
    return name + " " + str(error.deed) if isinstance(error, NoDeed) else name


def came_of(function, *arguments):
    try:
        return ("told", function(*arguments))
    except PassError as error:
        return ("refused", word_of(error))


def logged(outcome):
    """What the plain kernel tells of a row, as the log tells it."""
    name, _, rest = str(outcome[1]).partition(" ")
    if outcome[0] == "told":
        return outcome
    return ("refused", name + " " + words(int(rest)) if name == "Lacks" else name)


class ManyStepsTest(unittest.TestCase):
    def each_handle_is_where_it_belongs(self, kernel):
        in_letters = [part for thing in kernel.things.values() if thing.kind() == "door"
                      for letter in thing.letters() for part in letter.parts]
        places = {}
        for name in kernel.tasks.running():
            for _, number in kernel.tasks.slots(name):
                places.setdefault(number, []).append(name)
        for number in kernel.tree.kept():
            handle = kernel.tree.handle(number)
            if handle.holder == "":
                self.assertEqual(in_letters.count(number), 1)
                self.assertNotIn(number, places)
            else:
                self.assertEqual(places[number], [handle.holder])
            for above in kernel.tree.chain(number):
                self.assertEqual(handle.thing, kernel.tree.handle(above).thing)
                self.assertEqual(handle.rights & kernel.tree.handle(above).rights, handle.rights)
        self.assertLessEqual(set(places), set(kernel.tree.kept()))

    def test_many_steps(self):
        seen = set()
        for seed in range(12):
            walk, kernel, plain = Walk(seed), begun("ta"), PlainKernel("ta")
            for _ in range(300):
                row = walk.row(plain)
                ahead = whole(kernel)
                expected = plain.came_of(row)
                found = came_of(FUNCTIONS[row[1]], kernel, row[0], *row[2:])
                self.assertEqual(found, expected, row)
                self.assertEqual(whole(kernel), plain.whole(), row)
                if found[0] == "refused":
                    self.assertEqual(whole(kernel), ahead, row)
                self.each_handle_is_where_it_belongs(kernel)
                seen.add((row[1], found[0], str(found[1]).split(" ")[0] if found[0] == "refused" else ""))
        # The walk is worth something only if it came by most refusals.
        for word in ("make NoKind", "make TooMany", "start Taken", "start NoName", "start TooMany", "narrow Lacks",
                     "hand Lacks", "hand NoTask", "hand TooMany", "do NoDeed", "do NoValue", "do Lacks", "send NoWords",
                     "send NoHandle", "send Lacks", "send TooMany", "send NoRights", "hear Empty", "hear Lacks"):
            name, refusal = word.split(" ")
            self.assertIn((name, "refused", refusal), seen)


class ManyQuestionsTest(unittest.TestCase):
    def the_book(self, kernel, plain):
        told = book(kernel)
        self.assertEqual([(name, list(told[name].items())) for name in told], plain.book())
        for name in plain.runs():
            for thing in range(len(plain.things)):
                self.assertEqual(can(kernel, name, thing), plain.can(name, thing))

    def the_slots(self, kernel, plain):
        for name in plain.runs():
            for slot, _ in kernel.tasks.slots(name):
                self.assertEqual(chain_of(kernel, name, slot), plain.chain_of(name, slot))
                self.assertEqual(given_to(kernel, name, slot), plain.given_to(name, slot))

    def what_might_be(self, kernel, plain, still):
        facts = plain.could(still)
        for name in plain.runs():
            for thing in range(len(plain.things)):
                expected = sum([bit for bit in bits(63) if (name, thing, bit) in facts])
                self.assertEqual(could(kernel, name, thing, still), expected, (name, thing, still))

    def test_questions_along_the_way(self):
        for seed in range(12):
            walk, kernel, plain = Walk(seed), begun("ta"), PlainKernel("ta")
            for step in range(1, 241):
                row = walk.row(plain)
                plain.came_of(row)
                came_of(acted, kernel, row)
                self.assertEqual(shown(kernel), plain.shown(), row)
                if step % 20 == 0:
                    ahead = whole(kernel)
                    self.the_book(kernel, plain)
                    self.the_slots(kernel, plain)
                    for thing in range(len(plain.things)):
                        rights = walk.drawn(64) & walk.drawn(64)
                        self.assertEqual(who_can(kernel, thing, rights), plain.who(thing, rights))
                    self.assertEqual(whole(kernel), ahead)
                if step % 60 == 0:
                    still = [name for name in plain.runs() if walk.drawn(2)]
                    self.what_might_be(kernel, plain, still)

    def test_the_log_of_a_walk(self):
        for seed in range(12, 24):
            walk, plain = Walk(seed), PlainKernel("ta")
            rows, expected = [], []
            for _ in range(250):
                rows.append(walk.row(plain))
                expected.append(logged(plain.came_of(rows[-1])))
            kernel, outcomes = played("ta", rows)
            self.assertEqual(outcomes, expected)
            self.assertEqual(whole(kernel), plain.whole())
            self.assertEqual(shown(kernel), plain.shown())


# What those that act do never comes by more than was reckoned, whatever they do.
class WhatMightBeTest(unittest.TestCase):
    def within_what_was_reckoned(self, kernel, reckoned, row):
        for name, thing in reckoned:
            if name in kernel.tasks.running():
                had = can(kernel, name, thing)
                self.assertEqual(had & reckoned[(name, thing)], had, (row, name, thing))

    def test_those_that_act_stay_within_it(self):
        gained = 0
        for seed in range(24):
            walk, kernel, plain = Walk(seed), begun("ta"), PlainKernel("ta")
            for _ in range(90):
                row = walk.row(plain)
                plain.came_of(row)
                came_of(acted, kernel, row)
            still = [name for name in plain.runs() if walk.drawn(3) == 0]
            if seed % 2:
                still = tuple(still + ["ta"] * ("ta" in plain.runs()))
            pairs = [(name, thing) for name in plain.runs() for thing in range(len(plain.things))]
            ahead = {pair: can(kernel, *pair) for pair in pairs}
            reckoned = {pair: could(kernel, *pair, still) for pair in pairs}
            for _ in range(120):
                row = walk.row(plain, still)
                plain.came_of(row)
                came_of(acted, kernel, row)
                self.within_what_was_reckoned(kernel, reckoned, row)
                gained += any(can(kernel, *pair) & ~ahead[pair] for pair in pairs if pair[0] in plain.runs())
        # Worth something only where those that act came by more than they had.
        self.assertGreater(gained, 500)


def figures(number):
    return type(number) is int


# A row of the log as the desk takes it, or None where it can't be said there.
def said(row):
    task, word = row[:2]
    rest = list(row[2:])
    if word in ("make", "start"):
        return None if rest[0] == "" else f"{task} {word} {rest[0]}"
    if not figures(rest[0]):
        return None
    if word in ("narrow", "hand"):
        rights = rest.pop() if word == "narrow" or len(rest) == 3 else None
        if rights is not None and not (figures(rights) and 0 <= rights <= 63):
            return None
        behind = [] if rights is None else [words(rights)]
        return " ".join([task, word, str(rest[0])] + rest[1:] + behind)
    if word == "do":
        return " ".join([task, word] + [str(one) for one in rest]) if all(map(figures, rest[2:])) else None
    if word == "send":
        slots = (rest[2] if len(rest) > 2 else None) or []
        if rest[1] is None or len(rest) > 3 or not all(map(figures, slots)):
            return None
        return f"{task}  send {rest[0]} {','.join(map(str, slots)) or '-'}   {rest[1]}"
    return f" {task} {word} {rest[0]} "


def answer_of(row, outcome):
    word, answer = logged(outcome)
    if word == "refused":
        return "refused: " + answer
    if row[1] in ("make", "start", "narrow", "hand"):
        return f"slot {answer}"
    if row[1] == "hear":
        return f"[{answer[0]}]" + "".join([" -" if slot is None else f" {slot}" for slot in answer[1]])
    return str(answer)


class ManyRowsAtTheDeskTest(unittest.TestCase):
    def questions(self, walk, plain):
        name, other = walk.task(plain), walk.task(plain)
        thing, rights, slot = walk.drawn(max(1, len(plain.things))), walk.drawn(64), walk.drawn(16)
        if name not in plain.runs() or other not in plain.runs() or not plain.things:
            return []
        reckoned = plain.could([other])
        might = sum([bit for bit in bits(63) if (name, thing, bit) in reckoned])
        asked = [(f"who {thing} {words(rights)}", " ".join(plain.who(thing, rights)) or "nobody"),
                 (f"can {name} {thing}", words(plain.can(name, thing))),
                 (f"could {name} {thing} {other}", words(might))]
        if plain.slots[name][slot] is None:
            return asked + [(f"chain {name} {slot}", "refused: NoHandle"),
                            (f"given {name} {slot}", "refused: NoHandle")]
        chain = [f"{holder or '-'}:{words(had, '+')}" for holder, had in plain.chain_of(name, slot)]
        given = [f"{far}:{holder or '-'}:{words(had, '+')}" for far, holder, had in plain.given_to(name, slot)]
        return asked + [(f"chain {name} {slot}", " ".join(chain)),
                        (f"given {name} {slot}", " ".join(given) or "nothing")]

    def test_a_walk_at_the_desk(self):
        for seed in range(24, 36):
            walk, plain = Walk(seed), PlainKernel("ta")
            rows, expected = [], []
            while len(rows) < 300:
                row = walk.row(plain)
                text = said(row)
                if text is not None:
                    rows.append(text)
                    expected.append(answer_of(row, plain.came_of(row)))
                if walk.drawn(10) == 0:
                    for question, answer in self.questions(walk, plain):
                        rows.append(question)
                        expected.append(answer)
            found = answers("ta", "\n".join(rows))
            self.assertEqual(len(found), len(rows))
            for row, one, other in zip(rows, found, expected):
                self.assertEqual(one, other, row)


if __name__ == "__main__":
    unittest.main()
