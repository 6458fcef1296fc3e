"""Rights as numbers and as words, and what counts as a name, a value or words."""

from passkeep.errors import NoRights

LOOK = 1
PUT = 2
SEND = 4
HEAR = 8
END = 16
PASS = 32

MOST_RIGHTS = 63
LONGEST_NAME = 8
LONGEST_WORDS = 20
PERCENT_SIGN = 37


# Python counts True and False among the whole numbers; the program does not.
def is_number(thing):
    return isinstance(thing, int) and not isinstance(thing, bool)


def is_rights(thing):
    return is_number(thing) and 0 <= thing <= MOST_RIGHTS


def missing(needed, had):
    return needed & ~had


def within(some, more):
    return missing(some, more) == 0


def narrowed(rights, to):
    return rights & to


# A new list each time, so that no caller can spoil it for another.
def rights_with_words():
    return [(LOOK, "look"), (PUT, "put"), (SEND, "send"), (HEAR, "hear"), (END, "end"), (PASS, "pass")]


def one_by_one(rights):
    return [right for right, word in rights_with_words() if within(right, rights)]


def words_of(rights):
    words = [word for right, word in rights_with_words() if within(right, rights)]
    return " ".join(words) if words else "nothing"


def right_of_word(asked):
    for right, word in rights_with_words():
        if word == asked:
            return right
    raise NoRights("a word that is no right")


def rights_of(text):
    if not isinstance(text, str):
        raise NoRights("rights are told by a text")
    if text == "nothing":
        return 0
    found = 0
    # Parted at each single blank: a blank too many leaves a word without signs, which is no right.
    for word in text.split(" "):
        right = right_of_word(word)
        if within(right, found):
            raise NoRights("a right is told twice")
        found = found + right
    return found


def is_name(thing):
    if not isinstance(thing, str) or not 1 <= len(thing) <= LONGEST_NAME:
        return False
    return all(["a" <= sign <= "z" for sign in thing])


def is_value(thing):
    return is_number(thing) and abs(thing) <= 10 ** 12


def is_sign_of_words(sign):
    return " " <= sign <= "~" and ord(sign) != PERCENT_SIGN


def are_words(thing):
    if not isinstance(thing, str) or len(thing) > LONGEST_WORDS:
        return False
    return all([is_sign_of_words(sign) for sign in thing])
