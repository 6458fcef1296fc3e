"""Promises 21 and 22: letters that carry handles through doors."""

import unittest

from kernels import (
    KernelCase, NO_NAMES, NO_RIGHTS, NO_SLOTS, ODD, facts_at, fill_slots, handle_facts, letters_of, long_chain,
    slots_of, whole, with_tasks,
)
from passkeep.deeds import call_back, do, give_up
from passkeep.errors import Empty, Full, NoHandle, NoRights, NoTask, NoWords, TooMany
from passkeep.kernel import begun, hand, make, narrow
from passkeep.letters import Letter, hear, send

NO_TASKS = NO_NAMES + ("zed", "ANN", "ann ")
NO_WORDS = (ODD, "a" * 21, "a\nb", "a\tb", "\n", "100%", "%", None, True, False, 0, 1, 1.5, [], ["a"], (), ("a",), {},
            {"a"}, b"a", object(), str)


# A door (thing 1) in ann's slot 1 and in bob's slot 0, a cell (2) and a line (3) in ann's slots 2 and 3.
def with_door():
    kernel = with_tasks(["bob"])
    for kind in ("door", "cell", "line"):
        make(kernel, "ann", kind)
    hand(kernel, "ann", 1, "bob")
    return kernel


def waiting(kernel):
    return letters_of(kernel.things[1])


def facts(kernel, number):
    return handle_facts(kernel.tree.handle(number))


class LetterTest(unittest.TestCase):
    def test_its_values(self):
        letter = Letter("hi", (3, 4))
        self.assertEqual(letter.words, "hi")
        self.assertEqual(letter.parts, (3, 4))


class SendTest(KernelCase):
    def test_words_alone(self):
        kernel = with_door()
        handles = whole(kernel)[0]
        self.assertEqual(send(kernel, "ann", 1, "hello"), 1)
        self.assertEqual(send(kernel, "bob", 0, ""), 2)
        self.assertEqual(send(kernel, "ann", 1, " a b ~", None), 3)
        self.assertEqual(send(kernel, "ann", 1, "x" * 20, ()), 4)
        self.assertEqual(send(kernel, "ann", 1, "y", []), 5)
        self.assertEqual(send(kernel, "ann", 1, "y", None, 0), 6)
        self.assertEqual([letter[0] for letter in waiting(kernel)], ["hello", "", " a b ~", "x" * 20, "y", "y"])
        self.assertEqual([letter[1] for letter in waiting(kernel)], [()] * 6)
        self.assertEqual(whole(kernel)[0], handles)
        self.assertEqual(do(kernel, "ann", 1, "count"), 6)

    def test_parts_stand_right_below_and_nobody_has_them(self):
        kernel = with_door()
        ahead = (slots_of(kernel, "ann"), slots_of(kernel, "bob"))
        self.assertEqual(send(kernel, "ann", 1, "two", (3, 2)), 1)
        self.assertEqual(waiting(kernel), [("two", (5, 6))])
        self.assertEqual(facts(kernel, 5), (5, 3, 35, 3, ""))
        self.assertEqual(facts(kernel, 6), (6, 2, 35, 2, ""))
        self.assertEqual((slots_of(kernel, "ann"), slots_of(kernel, "bob")), ahead)
        letter = kernel.things[1].letters()[0]
        self.assertIs(type(letter), Letter)
        self.assertIs(type(letter.parts), tuple)

    def test_slots_as_a_tuple_or_a_list(self):
        for kind in (tuple, list):
            for count in range(5):
                kernel = with_door()
                slots = kind([2, 3, 0, 1][:count])
                self.assertEqual(send(kernel, "ann", 1, "", slots), 1)
                self.assertEqual(waiting(kernel), [("", tuple(range(5, 5 + count)))])
                self.assertEqual([facts(kernel, 5 + at)[3] for at in range(count)], [2, 3, 0, 1][:count])

    def test_a_list_handed_in_stays_and_may_be_changed(self):
        kernel = with_door()
        slots = [2, 3]
        send(kernel, "ann", 1, "", slots)
        self.assertEqual(slots, [2, 3])
        slots.append(0)
        slots[0] = 1
        self.assertEqual(waiting(kernel), [("", (5, 6))])
        self.assertEqual(hear(kernel, "bob", 0), ("", [1, 2]))

    def test_a_slot_told_twice(self):
        kernel = with_door()
        self.assertEqual(send(kernel, "ann", 1, "", (2, 2, 2, 2)), 1)
        self.assertEqual(waiting(kernel), [("", (5, 6, 7, 8))])
        for number in (5, 6, 7, 8):
            self.assertEqual(facts(kernel, number), (number, 2, 35, 2, ""))

    def test_the_doors_own_slot(self):
        kernel = with_door()
        self.assertEqual(send(kernel, "bob", 0, "", (0,)), 1)
        self.assertEqual(facts(kernel, 5), (5, 1, 45, 4, ""))

    def test_rights_narrowed(self):
        for rights in range(64):
            kernel = with_door()
            send(kernel, "ann", 1, "", (0, 1, 2), rights)
            found = [facts(kernel, number)[2] for number in (5, 6, 7)]
            self.assertEqual(found, [49 & rights, 45 & rights, 35 & rights])

    def test_no_task_and_no_handle(self):
        kernel = with_door()
        for task in NO_TASKS:
            self.refused(kernel, NoTask, send, task, 1, "")
        for slot in NO_SLOTS + (4, 15):
            self.refused(kernel, NoHandle, send, "ann", slot, "")

    def test_no_deed_where_it_is_no_door(self):
        kernel = with_door()
        narrow(kernel, "ann", 2, 0)
        for slot in (0, 2, 3, 4):
            self.no_deed(kernel, "send", send, "ann", slot, "hi")
            self.no_deed(kernel, "send", send, "ann", slot, None, (9,) * 5, 64)

    def test_no_words(self):
        kernel = with_door()
        for words in NO_WORDS:
            self.refused(kernel, NoWords, send, "ann", 1, words)

    def test_more_than_four_slots(self):
        kernel = with_door()
        for slots in ((0, 1, 2, 3, 0), [2] * 5, [2] * 40, (99,) * 5, [None] * 6):
            self.refused(kernel, TooMany, send, "ann", 1, "", slots)

    def test_no_handle_of_a_slot(self):
        kernel = with_door()
        for slot in NO_SLOTS + (4, 15):
            self.refused(kernel, NoHandle, send, "ann", 1, "", (slot,))
            self.refused(kernel, NoHandle, send, "ann", 1, "", [2, 3, 0, slot])
            self.refused(kernel, NoHandle, send, "ann", 1, "", [slot, 3])

    def test_slots_of_any_other_kind(self):
        kernel = with_door()
        for slots in (ODD, 0, 2, -1, True, False, "", "2", "22222", 1.5, {}, {2: 2}, {2}, b"2", object(), list):
            self.refused(kernel, NoHandle, send, "ann", 1, "", slots)

    def test_no_rights(self):
        kernel = with_door()
        for rights in NO_RIGHTS + (None,):
            self.refused(kernel, NoRights, send, "ann", 1, "", (2,), rights)
            self.refused(kernel, NoRights, send, "ann", 1, "", None, rights)

    def test_lacks_of_the_doors_handle(self):
        for had in (0, 1, 8, 32, 41):
            kernel = with_door()
            slot = narrow(kernel, "ann", 1, had)
            self.lacks(kernel, 4, send, "ann", slot, "")
            self.lacks(kernel, 4, send, "ann", slot, "", (2,))
        kernel = with_door()
        self.assertEqual(send(kernel, "ann", narrow(kernel, "ann", 1, 4), ""), 1)

    def test_lacks_of_the_slots_handles(self):
        kernel = with_door()
        bare = narrow(kernel, "ann", 2, 3)
        for slots in ((bare,), (2, bare), [2, 3, bare, bare], (bare, 2)):
            self.lacks(kernel, 32, send, "ann", 1, "", slots)
            self.lacks(kernel, 32, send, "ann", 1, "", slots, 0)
        # The door's own slot needs pass as a part alone.
        door = narrow(kernel, "ann", 1, 4)
        self.lacks(kernel, 32, send, "ann", door, "", (door,))
        self.assertEqual(send(kernel, "ann", door, "", (2,)), 1)

    def test_a_chain_of_forty(self):
        kernel = with_door()
        slot = long_chain(kernel, "ann", 2, 39)
        self.assertEqual(send(kernel, "ann", 1, "", (slot, slot)), 1)
        part = waiting(kernel)[0][1][0]
        self.assertEqual(len(kernel.tree.chain(part)), 40)
        last = hand(kernel, "ann", slot, "ann")
        for slots in ((last,), (3, last), (last, 3), (3, 0, 1, last)):
            self.refused(kernel, TooMany, send, "ann", 1, "", slots)
        self.assertEqual(send(kernel, "ann", 1, "", (3, slot)), 2)

    def test_the_doors_own_chain_does_not_count(self):
        kernel = with_door()
        slot = long_chain(kernel, "ann", 1, 40)
        self.assertEqual(send(kernel, "ann", slot, "", (2,)), 1)

    def test_full_at_eight(self):
        kernel = with_door()
        self.assertEqual([send(kernel, "ann", 1, "", (2,)) for _ in range(8)], list(range(1, 9)))
        self.refused(kernel, Full, send, "ann", 1, "")
        self.refused(kernel, Full, send, "bob", 0, "", (0,))
        hear(kernel, "bob", 0)
        self.assertEqual(send(kernel, "ann", 1, "", (2,)), 8)
        self.refused(kernel, Full, send, "ann", 1, "", (2, 3))

    def test_the_order_of_refusals(self):
        kernel = with_door()
        bare = narrow(kernel, "ann", 3, 3)
        mute = narrow(kernel, "ann", 1, 32)
        low = long_chain(kernel, "ann", 2, 40)
        lowest = narrow(kernel, "ann", 3, 35)
        for full in (False, True):
            while full and len(waiting(kernel)) < 8:
                send(kernel, "ann", 1, "")
            self.refused(kernel, NoTask, send, "zed", 99, None, (99,) * 5, 64)
            self.refused(kernel, NoHandle, send, "ann", 99, None, (99,) * 5, 64)
            self.no_deed(kernel, "send", send, "ann", bare, None, (99,) * 5, 64)
            self.refused(kernel, NoWords, send, "ann", mute, None, (99,) * 5, 64)
            self.refused(kernel, TooMany, send, "ann", mute, "", (99,) * 5, 64)
            self.refused(kernel, NoHandle, send, "ann", mute, "", (low, bare, 99), 64)
            self.refused(kernel, NoRights, send, "ann", mute, "", (low, bare), 64)
            self.lacks(kernel, 4, send, "ann", mute, "", (low, bare))
            self.lacks(kernel, 32, send, "ann", 1, "", (low, bare))
            self.refused(kernel, TooMany, send, "ann", 1, "", (low, lowest))
            self.refused(kernel, TooMany, send, "ann", 1, "", (lowest, low))
        self.refused(kernel, Full, send, "ann", 1, "", (lowest,))


class HearTest(KernelCase):
    def test_words_alone(self):
        kernel = with_door()
        send(kernel, "ann", 1, "one")
        send(kernel, "ann", 1, "")
        self.assertEqual(hear(kernel, "bob", 0), ("one", []))
        self.assertEqual(waiting(kernel), [("", ())])
        self.assertEqual(hear(kernel, "ann", 1), ("", []))
        self.assertEqual(waiting(kernel), [])

    def test_what_is_told(self):
        kernel = with_door()
        send(kernel, "ann", 1, "hi", (2,))
        told = hear(kernel, "bob", 0)
        self.assertIs(type(told), tuple)
        self.assertIs(type(told[1]), list)
        self.assertEqual(told, ("hi", [1]))
        ahead = whole(kernel)
        told[1].append(7)
        self.assertEqual(whole(kernel), ahead)

    def test_parts_come_to_the_lowest_empty_slots(self):
        kernel = with_door()
        for _ in range(4):
            make(kernel, "bob", "cell")
        give_up(kernel, "bob", 3)
        give_up(kernel, "bob", 1)
        send(kernel, "ann", 1, "abc", (3, 0, 2, 3))
        parts = waiting(kernel)[0][1]
        self.assertEqual(hear(kernel, "bob", 0), ("abc", [1, 3, 5, 6]))
        for part, slot, thing in zip(parts, (1, 3, 5, 6), (3, 0, 2, 3)):
            self.assertEqual(facts_at(kernel, "bob", slot), (part, thing, 49 if thing == 0 else 35, thing, "bob"))

    def test_the_one_who_hears_has_them(self):
        kernel = with_door()
        send(kernel, "ann", 1, "", (2,), 3)
        self.assertEqual(facts(kernel, 5)[4], "")
        self.assertEqual(hear(kernel, "bob", 0), ("", [1]))
        self.assertEqual(facts_at(kernel, "bob", 1), (5, 2, 3, 2, "bob"))
        self.assertEqual(do(kernel, "bob", 1, "write", 6), 0)
        self.assertEqual(do(kernel, "ann", 2, "read"), 6)
        self.lacks(kernel, 32, hand, "bob", 1, "ann")
        self.assertEqual(call_back(kernel, "ann", 2), 1)
        self.refused(kernel, NoHandle, do, "bob", 1, "read")

    def test_the_sender_may_hear_it(self):
        kernel = with_door()
        send(kernel, "ann", 1, "", (1, 1))
        self.assertEqual(hear(kernel, "ann", 1), ("", [4, 5]))
        self.assertEqual(facts_at(kernel, "ann", 5), (6, 1, 45, 1, "ann"))

    def test_parts_that_are_not_kept_come_as_none(self):
        kernel = with_door()
        send(kernel, "ann", 1, "gone", (2, 3, 2, 0))
        self.assertEqual(call_back(kernel, "ann", 2), 2)
        self.assertEqual(waiting(kernel), [("gone", (5, 6, 7, 8))])
        self.assertEqual(hear(kernel, "bob", 0), ("gone", [None, 1, None, 2]))
        self.assertEqual(slots_of(kernel, "bob"), {0: 4, 1: 6, 2: 8})

    def test_a_giver_called_back_while_the_letter_waits(self):
        kernel = with_door()
        hand(kernel, "ann", 2, "bob")
        send(kernel, "bob", 0, "from bob", (1, 0))
        self.assertEqual(facts(kernel, 6), (6, 2, 35, 5, ""))
        self.assertEqual(call_back(kernel, "ann", 2), 2)
        self.assertEqual(hear(kernel, "ann", 1), ("from bob", [None, 4]))
        self.assertEqual(facts_at(kernel, "ann", 4), (7, 1, 45, 4, "ann"))

    def test_a_giver_given_up_while_the_letter_waits(self):
        kernel = with_door()
        send(kernel, "ann", 1, "", (2, 2))
        self.assertEqual(give_up(kernel, "ann", 2), 3)
        # The slot is empty again, and what comes there has another number.
        self.assertEqual(make(kernel, "ann", "cell"), 2)
        self.assertEqual(hear(kernel, "bob", 0), ("", [None, None]))
        self.assertEqual(slots_of(kernel, "bob"), {0: 4})

    def test_all_parts_gone_need_no_slot(self):
        kernel = with_door()
        send(kernel, "ann", 1, "", (2, 2, 2, 2))
        fill_slots(kernel, "bob")
        self.refused(kernel, TooMany, hear, "bob", 0)
        call_back(kernel, "ann", 2)
        self.assertEqual(hear(kernel, "bob", 0), ("", [None] * 4))

    def test_fewer_empty_slots_than_parts(self):
        for count in range(5):
            for left in range(6):
                kernel = with_door()
                send(kernel, "ann", 1, "", [2] * count)
                send(kernel, "ann", 1, "next", (2,) * 4)
                fill_slots(kernel, "bob", left)
                if left < count:
                    self.refused(kernel, TooMany, hear, "bob", 0)
                else:
                    self.assertEqual(hear(kernel, "bob", 0), ("", list(range(16 - left, 16 - left + count))))

    def test_only_kept_parts_need_slots(self):
        kernel = with_door()
        send(kernel, "ann", 1, "", (2, 3, 0, 2))
        call_back(kernel, "ann", 2)
        fill_slots(kernel, "bob", 1)
        self.refused(kernel, TooMany, hear, "bob", 0)
        call_back(kernel, "ann", 3)
        self.assertEqual(hear(kernel, "bob", 0), ("", [None, None, 15, None]))

    def test_no_task_and_no_handle(self):
        kernel = with_door()
        send(kernel, "ann", 1, "")
        for task in NO_TASKS:
            self.refused(kernel, NoTask, hear, task, 1)
        for slot in NO_SLOTS + (4, 15):
            self.refused(kernel, NoHandle, hear, "ann", slot)

    def test_no_deed_where_it_is_no_door(self):
        kernel = with_door()
        narrow(kernel, "ann", 3, 0)
        for slot in (0, 2, 3, 4):
            self.no_deed(kernel, "hear", hear, "ann", slot)

    def test_lacks(self):
        for had in (0, 1, 4, 32, 37):
            kernel = with_door()
            send(kernel, "ann", 1, "")
            slot = narrow(kernel, "ann", 1, had)
            self.lacks(kernel, 8, hear, "ann", slot)
        kernel = with_door()
        send(kernel, "ann", 1, "")
        self.assertEqual(hear(kernel, "ann", narrow(kernel, "ann", 1, 8)), ("", []))

    def test_empty(self):
        kernel = with_door()
        self.refused(kernel, Empty, hear, "ann", 1)
        send(kernel, "ann", 1, "")
        hear(kernel, "ann", 1)
        self.refused(kernel, Empty, hear, "ann", 1)

    def test_the_order_of_refusals(self):
        kernel = with_door()
        deaf = narrow(kernel, "bob", 0, 37)
        bare = make(kernel, "bob", "cell")
        fill_slots(kernel, "bob")
        for letters in (0, 1):
            if letters:
                send(kernel, "ann", 1, "", (2,))
            self.refused(kernel, NoTask, hear, "zed", 99)
            self.refused(kernel, NoHandle, hear, "bob", 99)
            self.no_deed(kernel, "hear", hear, "bob", bare)
            self.lacks(kernel, 8, hear, "bob", deaf)
            self.refused(kernel, TooMany if letters else Empty, hear, "bob", 0)

    def test_doors_keep_to_themselves(self):
        kernel = begun("ann")
        make(kernel, "ann", "door")
        make(kernel, "ann", "door")
        send(kernel, "ann", 0, "left", (1,))
        send(kernel, "ann", 1, "right")
        self.assertEqual(hear(kernel, "ann", 1), ("right", []))
        self.assertEqual(hear(kernel, "ann", 0), ("left", [2]))
        self.assertEqual(send(kernel, "ann", 2, "through"), 1)
        self.assertEqual(hear(kernel, "ann", 1), ("through", []))


if __name__ == "__main__":
    unittest.main()
