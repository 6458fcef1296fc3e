"""The desk: rows of a text, each done or asked, with an answer to each."""

from passkeep.book import can, chain_of, could, given_to, who_can
from passkeep.errors import NoRow, PassError
from passkeep.kernel import begun
from passkeep.log import acted, refusal_word
from passkeep.rights import rights_of, words_of
from passkeep.showing import holder_shown, joined_words, letter_shown

QUESTIONS = ("who", "can", "could", "chain", "given")
MOST_FIGURES = 15


def is_number_word(word):
    figures = word[1:] if word.startswith("-") else word
    if not 1 <= len(figures) <= MOST_FIGURES:
        return False
    # Sign by sign, since Python takes other figures than 0 to 9 for figures, too.
    if not all(["0" <= sign <= "9" for sign in figures]):
        return False
    return word == "0" or not figures.startswith("0")


def number_of(word):
    if not is_number_word(word):
        raise NoRow("there is no number where one should be")
    return int(word)


def need_count(words, fewest, most):
    if not fewest <= len(words) <= most:
        raise NoRow("the row has another number of words")


def need_at_least(words, fewest):
    need_count(words, fewest, len(words))


def rights_in(words):
    return rights_of(" ".join(words))


def slots_in(word):
    if word == "-":
        return ()
    return tuple([number_of(one) for one in word.split(",")])


def rest_of_hand(rest):
    need_at_least(rest, 2)
    slot = number_of(rest[0])
    if len(rest) == 2:
        return (slot, rest[1])
    return (slot, rest[1], rights_in(rest[2:]))


def rest_of_do(rest):
    need_count(rest, 2, 3)
    slot = number_of(rest[0])
    if len(rest) == 2:
        return (slot, rest[1])
    return (slot, rest[1], number_of(rest[2]))


def rest_of_send(rest):
    need_at_least(rest, 2)
    return (number_of(rest[0]), " ".join(rest[2:]), slots_in(rest[1]))


def rest_of_narrow(rest):
    need_at_least(rest, 2)
    return (number_of(rest[0]), rights_in(rest[1:]))


# Numbers are asked ahead of rights everywhere: another form goes ahead of rights that are none.
def rest_of_row(word, rest):
    if word == "narrow":
        return rest_of_narrow(rest)
    if word == "hand":
        return rest_of_hand(rest)
    if word == "do":
        return rest_of_do(rest)
    if word == "send":
        return rest_of_send(rest)
    need_count(rest, 1, 1)
    if word in ("make", "start"):
        return (rest[0],)
    if word in ("back", "give", "hear"):
        return (number_of(rest[0]),)
    raise NoRow("no row has such a word")


def heard_shown(heard):
    parts = ["-" if slot is None else str(slot) for slot in heard[1]]
    return letter_shown(heard[0], parts)


def done(kernel, words):
    need_at_least(words, 2)
    word = words[1]
    told = acted(kernel, (words[0], word) + rest_of_row(word, words[2:]))
    if word in ("make", "start", "narrow", "hand"):
        return "slot " + str(told)
    if word == "hear":
        return heard_shown(told)
    return str(told)


def who_told(kernel, rest):
    need_at_least(rest, 2)
    thing = number_of(rest[0])
    names = who_can(kernel, thing, rights_in(rest[1:]))
    return " ".join(names) if names else "nobody"


def could_told(kernel, rest):
    need_at_least(rest, 2)
    return words_of(could(kernel, rest[0], number_of(rest[1]), rest[2:]))


def held_shown(holder, rights):
    return holder_shown(holder) + ":" + joined_words(rights)


def chain_told(pairs):
    return " ".join([held_shown(holder, rights) for holder, rights in pairs])


def given_told(triples):
    each = [str(far) + ":" + held_shown(holder, rights) for far, holder, rights in triples]
    return " ".join(each) if each else "nothing"


def asked(kernel, words):
    question = words[0]
    rest = words[1:]
    if question == "who":
        return who_told(kernel, rest)
    if question == "could":
        return could_told(kernel, rest)
    need_count(rest, 2, 2)
    task = rest[0]
    number = number_of(rest[1])
    if question == "can":
        return words_of(can(kernel, task, number))
    if question == "chain":
        return chain_told(chain_of(kernel, task, number))
    return given_told(given_to(kernel, task, number))


def answer_to(kernel, words):
    try:
        return asked(kernel, words) if words[0] in QUESTIONS else done(kernel, words)
    except PassError as error:
        return "refused: " + refusal_word(error)


def answers(name, text):
    kernel = begun(name)
    told = []
    for row in text.split("\n"):
        words = [word for word in row.split(" ") if word != ""]
        if len(words) > 0:
            told.append(answer_to(kernel, words))
    return told
