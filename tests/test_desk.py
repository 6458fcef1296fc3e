"""Promises 29 and 30: rows of a text, and the answers to them."""

import unittest

from kernels import NO_NAMES
from passkeep.desk import answers
from passkeep.errors import NoName

# Bob's post (thing 0), a cell (1), a door (2) and a line (3) in ann's slots of these numbers; the door is bob's, too.
BEGIN = ("ann start bob", "ann make cell", "ann make door", "ann make line", "ann hand 2 bob look send hear")
NO_ROW = "refused: NoRow"
# What is no number at the desk: each of these makes a row one of another form.
NO_FIGURES = ("-0", "00", "01", "007", "-01", "-00", "+1", "+0", "--1", "1-", "-", "1.", "1.0", ".5", "1e3", "0x1",
              "1_0", "1,0", "a", "one", "1a", "a1", "\t1", "1\t", "\u0661", "\u00b2", "\u2460", "\uff11", "-\u0661",
              "\u22121", "None", "True", "1000000000000000", "-1000000000000000", "9999999999999999",
              "0000000000000001", "1" * 99)
FIFTEEN = "9" * 15


def last(*rows):
    """The answer to the last row, at a kernel that ann has begun with what BEGIN says."""
    found = answers("ann", "\n".join(BEGIN + rows))
    assert len(found) == len(BEGIN) + len(rows), rows
    return found[-1]


class DeskCase(unittest.TestCase):
    def asks(self, row, answer):
        self.assertEqual(last(row), answer, row)


class TextTest(DeskCase):
    def test_no_rows(self):
        for text in ("", "\n", "\n\n\n", "  ", " \n  \n\n "):
            self.assertEqual(answers("ann", text), [])

    def test_no_name(self):
        for name in NO_NAMES:
            for text in ("", "ann make cell", "x"):
                with self.assertRaises(NoName) as caught:
                    answers(name, text)
                self.assertIs(type(caught.exception), NoName)

    def test_blanks_ahead_behind_and_between(self):
        for row in ("ann make cell", " ann make cell", "ann make cell ", "   ann   make     cell   "):
            self.assertEqual(answers("ann", row), ["slot 0"])

    def test_rows_without_words_have_no_answer(self):
        text = "\n  \nann make cell\n\n   \n  ann make line\n\n\nann make fly\n"
        self.assertEqual(answers("ann", text), ["slot 0", "slot 1", "refused: NoKind"])

    def test_only_line_ends_part_rows_and_only_blanks_part_words(self):
        for sign in ("\t", "\r", "\x0b", "\x0c", "\x1c", "\x85", "\u2028", "\u00a0"):
            self.assertEqual(answers("ann", "ann make cell" + sign + "ann make cell"), [NO_ROW])
            self.assertEqual(answers("ann", "ann make" + sign + "cell"), [NO_ROW])
            self.assertEqual(answers("ann", "ann make cell" + sign), ["refused: NoKind"])
            self.assertEqual(answers("ann", sign), [NO_ROW])

    def test_a_kernel_of_its_own_each_time(self):
        for count in range(3):
            self.assertEqual(answers("bob", "bob make cell\nbob do 0 add 2"), ["slot 0", "2"])

    def test_the_answers_are_the_askers_own(self):
        told = answers("ann", "ann make cell")
        told.append("x")
        self.assertEqual(answers("ann", "ann make cell"), ["slot 0"])
        self.assertIs(type(told), list)
        self.assertTrue(all(type(one) is str for one in told))

    def test_a_row_that_is_refused_changes_nothing(self):
        text = "ann make cell\nann do 0 write 5\nann do 0 write x\nann do 9 write 6\nann do 0 fly\nann do 0 read"
        self.assertEqual(answers("ann", text),
                         ["slot 0", "0", NO_ROW, "refused: NoHandle", "refused: NoDeed", "5"])


class DeedsTest(DeskCase):
    def test_make_and_start(self):
        self.assertEqual(answers("ann", "\n".join(BEGIN)), ["slot 0", "slot 1", "slot 2", "slot 3", "slot 0"])
        self.asks("bob make line", "slot 1")
        self.asks("bob start cid", "slot 1")
        self.asks("ann make post", "refused: NoKind")
        self.asks("ann make 1", "refused: NoKind")
        self.asks("zed make cell", "refused: NoTask")
        self.asks("1 make cell", "refused: NoTask")
        self.asks("- start cid", "refused: NoTask")
        self.asks("ann start bob", "refused: Taken")
        self.asks("ann start Bob", "refused: NoName")
        self.asks("ann start abcdefghi", "refused: NoName")
        self.asks("ann start 7", "refused: NoName")

    def test_narrow(self):
        self.asks("ann narrow 1 look", "slot 4")
        self.asks("ann narrow 1 pass put look", "slot 4")
        self.asks("ann narrow 1 nothing", "slot 4")
        self.asks("ann narrow 1 look send hear", "refused: Lacks send hear")
        self.asks("ann narrow 9 look", "refused: NoHandle")
        self.asks("ann narrow -1 look", "refused: NoHandle")
        self.assertEqual(last("ann narrow 1 look", "ann do 4 write 1"), "refused: Lacks put")
        self.assertEqual(last("ann narrow 1 put", "ann do 4 write 1"), "0")
        self.assertEqual(last("ann narrow 1 look put", "chain ann 4"), "ann:look+put+pass ann:look+put")

    def test_hand_with_and_without_rights(self):
        self.assertEqual(last("ann hand 1 bob", "chain bob 1"), "ann:look+put+pass bob:look+put+pass")
        self.assertEqual(last("ann hand 1 bob put", "chain bob 1"), "ann:look+put+pass bob:put")
        self.assertEqual(last("ann hand 1 bob  pass   look", "chain bob 1"), "ann:look+put+pass bob:look+pass")
        self.assertEqual(last("ann hand 1 bob nothing", "chain bob 1"), "ann:look+put+pass bob:nothing")
        self.asks("ann hand 1 bob", "slot 1")
        self.asks("ann hand 1 ann", "slot 4")
        self.asks("ann hand 1 zed", "refused: NoTask")
        self.asks("ann hand 1 zed end", "refused: NoTask")
        self.asks("ann hand 9 zed", "refused: NoHandle")
        self.asks("ann hand 1 bob end", "refused: Lacks end")
        self.asks("bob hand 0 ann put", "refused: Lacks put pass")
        self.asks("ann hand 1 1", "refused: NoTask")

    def test_back_and_give(self):
        self.asks("ann back 2", "1")
        self.asks("ann back 1", "0")
        self.asks("ann give 2", "2")
        self.asks("bob give 0", "1")
        self.asks("bob back 1", "refused: NoHandle")
        self.asks("bob give -7", "refused: NoHandle")
        self.asks("zed give 0", "refused: NoTask")

    def test_do_with_and_without_a_number(self):
        self.asks("ann do 1 read", "0")
        self.asks("ann do 1 kind", "cell")
        self.asks("ann do 0 state", "runs")
        self.asks("ann do 0 end", "1")
        self.asks("ann do 3 count", "0")
        self.assertEqual(last("ann do 1 write 5", "ann do 1 write -8"), "5")
        self.assertEqual(last("ann do 1 write -8", "ann do 1 read 3"), "-8")
        self.assertEqual(last("ann do 1 write 5", "ann do 1 write"), "5")
        self.assertEqual(last("ann do 1 write 5", "ann do 1 write", "ann do 1 read"), "0")
        self.assertEqual(last("ann do 3 push -7", "ann do 3 push", "ann do 3 pull"), "-7")
        self.asks("ann do 3 push", "1")
        self.asks("ann do 3 pull", "refused: Empty")
        self.asks("ann do 1 fly", "refused: NoDeed")
        self.asks("ann do 1 1", "refused: NoDeed")
        self.asks("ann do 2 send", "refused: NoDeed")
        self.asks("ann do 2 hear 0", "refused: NoDeed")
        self.asks("ann do 1 add 1000000000000", "1000000000000")
        self.asks("ann do 1 add 1000000000001", "refused: NoValue")
        self.asks("ann do 1 add -1000000000001", "refused: NoValue")
        self.assertEqual(last("ann do 1 write 1000000000000", "ann do 1 add 1"), "refused: TooGreat")
        self.assertEqual(last("ann hand 0 bob look", "bob do 1 end"), "refused: Lacks end")
        self.assertEqual(last("ann do 0 end", "bob make cell"), "refused: NoTask")
        self.assertEqual(last("ann hand 0 bob", "bob do 1 end"), "1")

    def test_send_and_hear(self):
        self.asks("ann send 2 -", "1")
        self.asks("ann send 2 - hello", "1")
        self.asks("ann send 2 1,0 hello", "1")
        self.asks("bob hear 0", "refused: Empty")
        self.assertEqual(last("ann send 2 -", "bob hear 0"), "[]")
        self.assertEqual(last("ann send 2 -   hello   there ", "bob hear 0"), "[hello there]")
        self.assertEqual(last("ann send 2 1 a", "bob hear 0"), "[a] 1")
        self.assertEqual(last("ann send 2 1,0,1,3 a b", "bob hear 0"), "[a b] 1 2 3 4")
        self.assertEqual(last("ann send 2 1", "bob hear 0"), "[] 1")
        self.assertEqual(last("ann send 2 1,0,1 a", "ann back 1", "bob hear 0"), "[a] - 1 -")
        self.assertEqual(last("ann send 2 1", "ann back 1", "bob hear 0"), "[] -")
        self.assertEqual(last("ann send 2 - a", "ann send 2 - b", "bob hear 0", "bob hear 0"), "[b]")
        self.assertEqual(last("ann send 2 - a", "ann send 2 - b"), "2")
        self.assertEqual(last("ann send 2 1", "bob hear 0", "chain bob 1"), "ann:look+put+pass bob:look+put+pass")
        # All words behind are the letter's, be they numbers, signs or words of rights.
        self.assertEqual(last("ann send 2 - - 1,2 look nothing", "bob hear 0"), "[- 1,2 look nothing]")
        self.assertEqual(last("ann send 2 - [x] 007", "bob hear 0"), "[[x] 007]")

    def test_send_that_is_refused(self):
        self.asks("ann send 2 - " + "x" * 20, "1")
        self.asks("ann send 2 - " + "x" * 21, "refused: NoWords")
        self.asks("ann send 2 - " + "x " * 11, "refused: NoWords")
        self.asks("ann send 2 - x%", "refused: NoWords")
        self.asks("ann send 2 - a\tb", "refused: NoWords")
        self.asks("ann send 2 1,1,1,1", "1")
        self.asks("ann send 2 1,1,1,1,1", "refused: TooMany")
        self.asks("ann send 2 9", "refused: NoHandle")
        self.asks("ann send 2 1,-1", "refused: NoHandle")
        self.asks("ann send 2 -1", "refused: NoHandle")
        self.asks("ann send 1 - a", "refused: NoDeed")
        self.asks("ann hear 1", "refused: NoDeed")
        self.asks("bob send 0 0", "refused: Lacks pass")
        self.assertEqual(last(*["ann send 2 -"] * 9), "refused: Full")
        self.assertEqual(last("ann narrow 2 hear", "ann send 4 -"), "refused: Lacks send")
        self.assertEqual(last("ann narrow 2 send", "ann hear 4"), "refused: Lacks hear")

    def test_too_many(self):
        self.assertEqual(last(*["ann make cell"] * 13), "refused: TooMany")
        self.assertEqual(last(*["ann make cell"] * 12), "slot 15")
        self.assertEqual(last(*["bob make cell"] * 16), "refused: TooMany")


class QuestionsTest(DeskCase):
    def test_who(self):
        self.asks("who 2 look", "ann bob")
        self.asks("who 2 pass look", "ann")
        self.asks("who 2 put", "nobody")
        self.asks("who 2 nothing", "ann bob")
        self.asks("who 1   nothing ", "ann")
        self.asks("who 4 look", "refused: NoThing")
        self.asks("who -1 look", "refused: NoThing")
        self.assertEqual(last("ann give 1", "who 1 nothing"), "nobody")

    def test_can(self):
        self.asks("can ann 1", "look put pass")
        self.asks("can bob 2", "look send hear")
        self.asks("can bob 1", "nothing")
        self.asks("can zed 1", "refused: NoTask")
        self.asks("can zed 9", "refused: NoTask")
        self.asks("can ann 9", "refused: NoThing")
        self.asks("can ann -9", "refused: NoThing")
        self.asks("can 1 1", "refused: NoTask")

    def test_could(self):
        self.asks("could bob 1", "look put pass")
        self.asks("could bob 1 bob", "look put pass")
        self.asks("could bob 1 ann", "nothing")
        self.asks("could bob 2 ann", "look send hear")
        self.asks("could ann 1 ann bob ann", "look put pass")
        self.assertEqual(last("ann send 2 1", "could bob 1 ann"), "look put pass")
        self.assertEqual(last("ann send 2 1", "could bob 1 ann bob"), "nothing")
        self.asks("could zed 9 zed", "refused: NoTask")
        self.asks("could ann 9 zed", "refused: NoThing")
        self.asks("could ann 1 bob zed", "refused: NoTask")
        self.asks("could ann 1 1", "refused: NoTask")

    def test_chain(self):
        self.asks("chain ann 1", "ann:look+put+pass")
        self.asks("chain bob 0", "ann:look+send+hear+pass bob:look+send+hear")
        self.assertEqual(last("ann narrow 1 nothing", "chain ann 4"), "ann:look+put+pass ann:nothing")
        self.asks("chain ann 9", "refused: NoHandle")
        self.asks("chain bob -1", "refused: NoHandle")
        self.asks("chain zed 0", "refused: NoTask")
        self.asks("chain zed 99", "refused: NoTask")

    def test_given(self):
        self.asks("given ann 1", "nothing")
        self.asks("given ann 2", "1:bob:look+send+hear")
        self.assertEqual(last("ann hand 1 bob", "bob hand 1 ann nothing", "ann send 2 1", "given ann 1"),
                         "1:bob:look+put+pass 2:ann:nothing 1:-:look+put+pass")
        self.asks("given ann 9", "refused: NoHandle")
        self.asks("given ann -1", "refused: NoHandle")
        self.asks("given zed 0", "refused: NoTask")

    def test_questions_of_another_form(self):
        for row in ("who", "who 1", "who look", "who look 1", "who x look", "who 01 look", "can", "can ann", "can 1",
                    "can ann x", "can ann 1 1", "can 1 ann", "can ann 1 look", "could", "could ann", "could 1",
                    "could ann x", "could ann -0 bob", "could 1 ann", "chain", "chain ann", "chain 0", "chain ann x",
                    "chain ann 0 0", "chain 0 ann", "given", "given ann", "given 0", "given ann 00", "given ann 0 0"):
            self.asks(row, NO_ROW)

    def test_a_task_that_has_the_name_of_a_question(self):
        for name in ("who", "can", "could", "chain", "given"):
            for rest in ("make cell", "start bob", "make door", "hear", "do kind 0"):
                self.assertEqual(answers(name, name + " " + rest), [NO_ROW], (name, rest))
            self.assertEqual(last("ann start " + name, "ann hand 1 " + name), "slot 0")
        # The same rows may be such questions, of a task that has the name of a deed.
        for name in ("can", "could", "chain", "given"):
            self.assertEqual(answers(name, name + " back 0"), ["refused: NoTask"])
        self.assertEqual(answers("who", "who back 0"), [NO_ROW])
        self.assertEqual(answers("could", "could hand 0 could"), ["refused: NoTask"])
        self.assertEqual(answers("who", "who 0 look"), ["refused: NoThing"])
        self.assertEqual(last("ann start can", "ann hand 1 can look", "can can 1"), "look")
        self.assertEqual(last("ann start who", "who 0 look"), "ann")
        self.assertEqual(last("ann start make", "ann hand 1 make put", "can make 1"), "put")
        self.assertEqual(last("ann start make", "make make cell"), "slot 0")

    def test_words_of_questions_elsewhere_in_a_row(self):
        for word in ("who", "can", "could", "chain", "given"):
            self.asks("ann " + word, NO_ROW)
            self.asks("ann " + word + " 1", NO_ROW)
            self.asks("ann start " + word, "slot 4")
            self.asks("ann make " + word, "refused: NoKind")
            self.asks("ann do 1 " + word, "refused: NoDeed")
            self.assertEqual(last("ann send 2 - " + word, "ann hear 2"), "[" + word + "]")
            self.asks(word.upper() + " make cell", "refused: NoTask")
            self.asks(word + "s make cell", "refused: NoTask")

    def test_questions_change_nothing(self):
        rows = ("who 1 look", "can ann 1", "could bob 1 ann", "chain ann 1", "given ann 2") * 3
        self.assertEqual(last(*rows, "ann make cell"), "slot 4")


class FormsTest(DeskCase):
    def test_another_form(self):
        for row in ("x", "ann", "make", "make cell", "ann make", "ann fly", "ann fly 1", "ann make cell cell",
                    "ann Make cell", "make ann cell", "ann cell make", "ann start", "ann start cid dan", "ann narrow",
                    "ann narrow 1", "ann narrow look", "ann narrow look 1", "ann hand", "ann hand 1", "ann hand bob",
                    "ann hand bob 1", "ann hand bob 1 look", "ann back", "ann back 1 1", "ann give", "ann give 1 1",
                    "ann do", "ann do 1", "ann do read", "ann do read 1", "ann do 1 write x", "ann do 1 write 1 1",
                    "ann do 1 write 1 x", "ann hear", "ann hear 1 1", "ann hear x", "ann send", "ann send 2",
                    "ann send -", "ann send 2 hello", "ann send - 2", "ann send x -", "ann call_back 1",
                    "ann give_up 1", "ann back x", "1", "- -", "ann 1 make"):
            self.asks(row, NO_ROW)

    def test_numbers_of_every_odd_form(self):
        for word in NO_FIGURES:
            for row in ("ann narrow {} look", "ann hand {} bob", "ann hand {} bob look", "ann back {}", "ann give {}",
                        "ann do {} read", "ann do {} read 1", "ann do 1 write {}", "ann hear {}", "ann send {} -",
                        "ann send {} - hi", "who {} look", "can ann {}", "could ann {}", "could ann {} bob",
                        "chain ann {}", "given ann {}", "ann send 2 1,{}", "ann send 2 {},1 hi"):
                if word != "1,0" or "," not in row:
                    self.asks(row.format(word), NO_ROW)

    def test_numbers_as_they_should_be(self):
        for word in ("4", "15", "16", "-1", "-15", "100", "-100", FIFTEEN, "-" + FIFTEEN, "1" + "0" * 14):
            for row in ("ann narrow {} look", "ann hand {} bob", "ann back {}", "ann give {}", "ann do {} read",
                        "ann hear {}", "ann send {} -", "chain ann {}", "given ann {}", "ann send 2 {}",
                        "ann send 2 1,{}", "ann send 2 {},1 hi"):
                self.asks(row.format(word), "refused: NoHandle")
            for row in ("who {} look", "can ann {}", "could ann {}"):
                self.asks(row.format(word), "refused: NoThing")
        self.asks("ann do 1 write " + FIFTEEN, "refused: NoValue")
        self.asks("ann do 1 write -" + FIFTEEN, "refused: NoValue")
        for word in ("0", "1", "-1", "10", "-10", "100200300", "999999999999", "-1000000000000"):
            self.assertEqual(last("ann do 1 write " + word, "ann do 1 read"), word)

    def test_slots_of_every_odd_form(self):
        for word in ("1,,2", ",", ",1", "1,", "1,2,", ",,", "1;2", "1,a", "a,1", "a", "-,1", "1,-", "-,-", "--", "1,-0",
                     "-0", "00", "1,02", "+1", "1.2", "(1,2)", "[1]", "1,2,3,4,5,", "1,,2,3,4,5", "1,\t2", "none",
                     "1" * 16, "0," + "1" * 16, ",-", "-,"):
            self.asks("ann send 2 " + word, NO_ROW)
            self.asks("ann send 2 " + word + " hi", NO_ROW)
        self.asks("ann send 2 1, 2", NO_ROW)
        self.asks("ann send 2 1 ,2", "1")
        self.asks("ann send 2 0,1,2,3", "1")
        self.asks("ann send 2 -1,0", "refused: NoHandle")

    def test_rights_that_are_none(self):
        for word in ("fly", "Look", "LOOK", "look look", "look fly", "fly look", "look nothing", "nothing look",
                     "nothing nothing", "1", "35", "0", "-", "look,put", "look+put", "pass look put pass", "look\t",
                     "None", "nobody"):
            for row in ("ann narrow 1 ", "ann hand 1 bob ", "who 1 "):
                self.asks(row + word, "refused: NoRights")

    def test_rights_that_are_none_go_ahead_of_all_but_the_form(self):
        for row in ("zed narrow 1 fly", "ann narrow 9 fly", "zed narrow 9 fly", "zed hand 9 zed fly",
                    "ann hand 9 bob fly", "ann hand 1 zed fly", "bob hand 0 ann fly", "who 9 fly", "who -1 look look"):
            self.asks(row, "refused: NoRights")
        for row in ("zed narrow x fly", "zed narrow -0 fly", "ann hand x bob fly", "ann hand 01 zed look look",
                    "who x fly", "who 00 fly", "zed hand bob 1 fly"):
            self.asks(row, NO_ROW)

    def test_another_form_goes_ahead_of_all_else(self):
        for row in ("zed make", "zed make post x", "zed start Bob x", "zed do 9 fly x", "ann do 9 fly x",
                    "ann do 1 fly -0", "zed send 9 1,,2 " + "x" * 21, "ann send 1 x a", "ann hear 9 9", "zed back x",
                    "can zed x", "could zed x zed", "chain zed x", "given zed -0"):
            self.asks(row, NO_ROW)

    def test_every_word_of_rights(self):
        words = ("look", "put", "send", "hear", "end", "pass")
        for rights in range(64):
            asked = [word for at, word in enumerate(words) if rights & 2 ** at] or ["nothing"]
            had = [word for word in asked if word in ("look", "put", "pass", "nothing")]
            expected = "slot 4" if had == asked else "refused: Lacks " + " ".join(
                [word for word in asked if word not in had])
            self.asks("ann narrow 1 " + " ".join(reversed(asked)), expected)


class LongTextTest(DeskCase):
    def test_a_whole_day_at_the_desk(self):
        text = """
            ann start bob
            ann start cid
            ann make door
            ann make cell
            ann hand 2 bob look hear
            ann hand 3 bob look pass
            bob hand 1 cid look
            cid do 0 read
            cid do 0 write 3
            ann send 2 3,0 for you
            given ann 3
            could cid 3 ann
            bob hear 0
            bob do 2 add 41
            chain bob 2
            who 3 look put
            ann back 3
            cid do 0 read
            can bob 3
            bob do 3 end
            who 0 nothing
            can cid 3
            bob hear 0
        """
        self.assertEqual(answers("ann", text), [
            "slot 0", "slot 1", "slot 2", "slot 3", "slot 0", "slot 1", "slot 0", "0", "refused: Lacks put", "1",
            "1:bob:look+pass 2:cid:look 1:-:look+put+pass", "look put pass", "[for you] 2 3", "41",
            "ann:look+put+pass bob:look+put+pass", "ann bob", "3", "refused: NoHandle", "nothing", "1", "nobody",
            "nothing", "refused: NoTask",
        ])


if __name__ == "__main__":
    unittest.main()
