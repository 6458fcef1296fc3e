"""Promises 2, 3 and 4: rights, their words, names, values and words of letters."""

import itertools
import unittest

from passkeep import rights
from passkeep.errors import NoRights
from passkeep.rights import (
    are_words, is_name, is_rights, is_value, missing, narrowed, one_by_one, rights_of, within, words_of,
)

SINGLE = (1, 2, 4, 8, 16, 32)
WORDS = ("look", "put", "send", "hear", "end", "pass")
NO_NUMBERS = (True, False, None, "", "1", "look", 1.0, 0.0, [], [1], (), (1,), {}, {1: 1}, {1}, b"1", object(), int)
NO_TEXTS = (True, False, None, 0, 1, 63, 1.5, [], ["look"], (), ("look",), {}, {"look": 1}, {"look"}, b"look",
            object(), str)


def has(number, single):
    return number // single % 2 == 1


def sum_of(singles):
    total = 0
    for single in singles:
        total += single
    return total


class RightsTest(unittest.TestCase):
    def test_the_six_rights(self):
        told = (rights.LOOK, rights.PUT, rights.SEND, rights.HEAR, rights.END, rights.PASS)
        self.assertEqual(told, SINGLE)

    def test_is_rights_at_each_number_near_the_bounds(self):
        for number in range(-70, 140):
            self.assertIs(is_rights(number), 0 <= number <= 63, number)
        for number in (-10 ** 5000, -64, 10 ** 12, 10 ** 5000):
            self.assertIs(is_rights(number), False)

    def test_is_rights_of_what_is_no_number(self):
        for thing in NO_NUMBERS:
            self.assertIs(is_rights(thing), False, repr(thing))

    def test_pairs_against_going_through_the_six(self):
        for one in range(64):
            for other in range(64):
                self.assertIs(within(one, other), all(has(other, s) for s in SINGLE if has(one, s)))
                self.assertEqual(missing(one, other), sum_of(s for s in SINGLE if has(one, s) and not has(other, s)))
                self.assertEqual(narrowed(one, other), sum_of(s for s in SINGLE if has(one, s) and has(other, s)))

    def test_one_by_one(self):
        self.assertEqual(one_by_one(0), [])
        self.assertEqual(one_by_one(63), [1, 2, 4, 8, 16, 32])
        for number in range(64):
            self.assertEqual(one_by_one(number), [s for s in SINGLE if has(number, s)])

    def test_a_list_of_one_by_one_is_the_askers_own(self):
        for number in range(64):
            first = one_by_one(number)
            first.append(64)
            first.reverse()
            self.assertEqual(one_by_one(number), [s for s in SINGLE if has(number, s)])
            second = one_by_one(number)
            one_by_one(63 - number).clear()
            self.assertEqual(second, [s for s in SINGLE if has(number, s)])


class WordsTest(unittest.TestCase):
    def refuses(self, text):
        with self.assertRaises(NoRights, msg=repr(text)):
            rights_of(text)

    def words(self, number):
        return [word for single, word in zip(SINGLE, WORDS) if has(number, single)]

    def test_words_of(self):
        self.assertEqual(words_of(0), "nothing")
        self.assertEqual(words_of(63), "look put send hear end pass")
        for number in range(1, 64):
            self.assertEqual(words_of(number), " ".join(self.words(number)))

    def test_rights_of_in_every_order(self):
        self.assertEqual(rights_of("nothing"), 0)
        for number in range(1, 64):
            for order in itertools.permutations(self.words(number)):
                self.assertEqual(rights_of(" ".join(order)), number)

    def test_rights_of_is_a_plain_number(self):
        for number in range(64):
            self.assertIs(type(rights_of(words_of(number))), int)

    def test_a_word_twice(self):
        for word in WORDS + ("nothing",):
            self.refuses(word + " " + word)
        for number in range(1, 64):
            for word in self.words(number):
                self.refuses(words_of(number) + " " + word)
                self.refuses(word + " " + words_of(number))

    def test_blanks_too_many(self):
        for number in range(64):
            text = words_of(number)
            for bad in (" " + text, "  " + text, text + " ", text + "  "):
                self.refuses(bad)
            if " " in text:
                self.refuses(text.replace(" ", "  ", 1))
                self.refuses(text.replace(" ", "   "))

    def test_other_signs_between_and_around(self):
        for sign in ("\n", "\t", "\r", "\r\n", "\v", "\f", "\x00", "\x85", "\xa0", "\u2003", ",", "+", "-"):
            self.refuses(sign)
            for number in (0, 1, 3, 63):
                text = words_of(number)
                for bad in (text + sign, sign + text, text + sign + "look", text + " " + sign, sign + " " + text):
                    self.refuses(bad)
        self.refuses("look\nput")
        self.refuses("look \nput")

    def test_nothing_stands_alone(self):
        for word in WORDS:
            self.refuses("nothing " + word)
            self.refuses(word + " nothing")
        self.refuses("look nothing put")

    def test_texts_that_are_no_rights(self):
        for bad in ("", " ", "  ", "Look", "LOOK", "Nothing", "loo", "looks", "lookput", "look puts", "fly", "look fly",
                    "0", "1", "63", "None", "look%", "l\u00f6\u00f6k", "look " * 10000):
            self.refuses(bad)

    def test_what_is_no_text(self):
        for thing in NO_TEXTS:
            self.refuses(thing)


class NamesTest(unittest.TestCase):
    def test_names_at_their_bounds(self):
        for length in range(0, 20):
            self.assertIs(is_name("a" * length), 1 <= length <= 8)
            self.assertIs(is_name("z" * length), 1 <= length <= 8)
        for good in ("a", "z", "m", "az", "abcdefgh", "stuvwxyz"):
            self.assertIs(is_name(good), True)

    def test_each_sign_of_a_name(self):
        for number in range(0, 1000):
            sign = chr(number)
            good = sign in "abcdefghijklmnopqrstuvwxyz"
            for text in (sign, sign + "a", "a" + sign, "abc" + sign + "def"):
                self.assertIs(is_name(text), good, repr(text))

    def test_what_is_no_name(self):
        for thing in NO_TEXTS + (["a"], ("a",), {"a": 1}, {"a"}, b"a"):
            self.assertIs(is_name(thing), False, repr(thing))


class ValuesTest(unittest.TestCase):
    def test_values_at_their_bounds(self):
        top = 1000000000000
        for good in (-top, 1 - top, -1, 0, 1, 63, 64, top - 1, top):
            self.assertIs(is_value(good), True, good)
        for bad in (-top - 1, top + 1, -2 * top, 2 * top):
            self.assertIs(is_value(bad), False, bad)
        self.assertIs(is_value(10 ** 5000), False)
        self.assertIs(is_value(-10 ** 5000), False)

    def test_what_is_no_value(self):
        for thing in NO_NUMBERS:
            self.assertIs(is_value(thing), False, repr(thing))


class WordsOfLettersTest(unittest.TestCase):
    def test_words_at_their_bounds(self):
        for length in range(0, 40):
            for sign in "a ~!":
                self.assertIs(are_words(sign * length), length <= 20)

    def test_each_sign_of_words(self):
        for number in range(32, 127):
            sign = chr(number)
            good = sign != "%"
            for text in (sign, "a" + sign, sign + "a", "a" * 19 + sign, " " + sign + " "):
                self.assertIs(are_words(text), good, repr(text))

    def test_line_end_and_tab(self):
        for sign in "\n\t":
            for text in (sign, "a" + sign, sign + "a", "a" * 19 + sign, "a" + sign + "b"):
                self.assertIs(are_words(text), False, repr(text))

    def test_what_are_no_words(self):
        for thing in NO_TEXTS + (["a"], ("a",), {"a": 1}, {"a"}, b"a"):
            self.assertIs(are_words(thing), False, repr(thing))


if __name__ == "__main__":
    unittest.main()
