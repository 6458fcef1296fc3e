"""Promises 1 and 14 to 22 behind each of many steps, against the same kernel told over again in plain rows."""

import unittest

from kernels import whole
from passkeep.deeds import call_back, do, give_up
from passkeep.errors import Lacks, NoDeed, PassError
from passkeep.kernel import begun, hand, make, narrow, start
from passkeep.letters import hear, send

FITS = {"cell": 3, "line": 3, "door": 13, "post": 17}
NEEDS = {
    "cell": {"kind": 0, "read": 1, "write": 2, "add": 3},
    "line": {"kind": 0, "push": 2, "pull": 3, "count": 1},
    "door": {"kind": 0, "count": 1},
    "post": {"kind": 0, "state": 1, "end": 16},
}
TOP = 10 ** 12
NAMES = ["t" + letter for letter in "abcdefghijklmnopqrstuvwxyz"]


class Refused(Exception):
    pass


def refuse_if(condition, word):
    if condition:
        raise Refused(word)


def is_whole(thing):
    return type(thing) is int


class PlainKernel:
    def __init__(self, name):
        self.handles = {}
        self.told = 0
        self.names = [name]
        self.maker = {name: ""}
        self.slots = {name: [None] * 16}
        self.things = []

    def runs(self):
        return [name for name in self.names if name in self.slots]

    def chain(self, number):
        giver = self.handles[number][2]
        return ([] if giver is None else self.chain(giver)) + [number]

    def under(self, number):
        return [one for one in sorted(self.handles) if number in self.chain(one)]

    def remove(self, numbers):
        for number in numbers:
            self.handles.pop(number, None)
        for slots in self.slots.values():
            for at, number in enumerate(slots):
                if number in numbers:
                    slots[at] = None

    def new(self, thing, rights, giver, holder):
        self.handles[self.told] = (thing, rights, giver, holder)
        self.told += 1
        return self.told - 1

    def put(self, task, number):
        at = self.slots[task].index(None)
        self.slots[task][at] = number
        return at

    def number(self, task, slot):
        refuse_if(task not in self.slots, "NoTask")
        refuse_if(not is_whole(slot) or not 0 <= slot <= 15 or self.slots[task][slot] is None, "NoHandle")
        return self.slots[task][slot]

    def lacking(self, number, rights):
        lacking = rights & (63 - self.handles[number][1])
        refuse_if(lacking, "Lacks " + str(lacking))

    def root(self, task, kind, rest):
        self.things.append([kind] + rest)
        return self.put(task, self.new(len(self.things) - 1, FITS[kind] + 32, None, task))

    def make(self, task, kind):
        refuse_if(task not in self.slots, "NoTask")
        refuse_if(kind not in ("cell", "line", "door"), "NoKind")
        refuse_if(len(self.things) == 40 or None not in self.slots[task], "TooMany")
        return self.root(task, kind, [0] if kind == "cell" else [[]])

    def start(self, task, name):
        refuse_if(task not in self.slots, "NoTask")
        refuse_if(name == "" or not name.isalpha() or not name.islower() or len(name) > 8, "NoName")
        refuse_if(name in self.names, "Taken")
        refuse_if(len(self.slots) == 12 or len(self.things) == 40 or None not in self.slots[task], "TooMany")
        self.names.append(name)
        self.maker[name] = task
        self.slots[name] = [None] * 16
        return self.root(task, "post", [name, True])

    def lower(self, number, rights, task):
        refuse_if(None not in self.slots[task] or len(self.chain(number)) == 40, "TooMany")
        return self.put(task, self.new(self.handles[number][0], rights, number, task))

    def narrow(self, task, slot, rights):
        number = self.number(task, slot)
        refuse_if(not is_whole(rights) or not 0 <= rights <= 63, "NoRights")
        self.lacking(number, rights)
        return self.lower(number, rights, task)

    def hand(self, task, slot, other, rights=None):
        number = self.number(task, slot)
        refuse_if(other not in self.slots, "NoTask")
        rights = self.handles[number][1] if rights is None else rights
        refuse_if(not is_whole(rights) or not 0 <= rights <= 63, "NoRights")
        self.lacking(number, rights | 32)
        return self.lower(number, rights, other)

    def call_back(self, task, slot):
        gone = self.under(self.number(task, slot))
        gone.remove(self.number(task, slot))
        self.remove(gone)
        return len(gone)

    def give_up(self, task, slot):
        gone = self.under(self.number(task, slot))
        self.remove(gone)
        return len(gone)

    def do(self, task, slot, deed, value=0):
        number = self.number(task, slot)
        thing = self.things[self.handles[number][0]]
        refuse_if(deed not in NEEDS[thing[0]], "NoDeed " + str(deed))
        refuse_if(not is_whole(value) or not -TOP <= value <= TOP, "NoValue")
        self.lacking(number, NEEDS[thing[0]][deed])
        if deed == "kind":
            return thing[0]
        return getattr(self, "do_" + thing[0])(thing, deed, value)

    def do_cell(self, cell, deed, value):
        ahead = cell[1]
        if deed == "read":
            return ahead
        after = value if deed == "write" else ahead + value
        refuse_if(not -TOP <= after <= TOP, "TooGreat")
        cell[1] = after
        return ahead if deed == "write" else after

    def do_line(self, line, deed, value):
        if deed == "count":
            return len(line[1])
        if deed == "push":
            refuse_if(len(line[1]) == 9, "Full")
            line[1] = line[1] + [value]
            return len(line[1])
        refuse_if(line[1] == [], "Empty")
        first, line[1] = line[1][0], line[1][1:]
        return first

    def do_door(self, door, deed, value):
        return len(door[1])

    def descends(self, name, above):
        return name == above or name != "" and self.descends(self.maker[name], above)

    def do_post(self, post, deed, value):
        if deed == "state":
            return "runs" if post[2] else "ended"
        ended = [name for name in self.runs() if self.descends(name, post[1])]
        gone = []
        for number in sorted(self.handles):
            thing = self.things[self.handles[number][0]]
            if any(number in self.slots[name] for name in ended) or thing[0] == "post" and thing[1] in ended:
                gone += self.under(number)
        self.remove(gone)
        for name in ended:
            del self.slots[name]
        for thing in self.things:
            if thing[0] == "post" and thing[1] in ended:
                thing[2] = False
        return len(ended)

    def send(self, task, slot, words, slots=None, rights=63):
        number = self.number(task, slot)
        door = self.things[self.handles[number][0]]
        refuse_if(door[0] != "door", "NoDeed send")
        refuse_if(not isinstance(words, str) or len(words) > 20 or "%" in words or "\n" in words, "NoWords")
        slots = [] if slots is None else slots
        refuse_if(len(slots) > 4, "TooMany")
        givers = [self.number(task, one) for one in slots]
        refuse_if(not is_whole(rights) or not 0 <= rights <= 63, "NoRights")
        self.lacking(number, 4)
        for giver in givers:
            self.lacking(giver, 32)
        refuse_if(any(len(self.chain(giver)) == 40 for giver in givers), "TooMany")
        refuse_if(len(door[1]) == 8, "Full")
        parts = [self.new(self.handles[giver][0], self.handles[giver][1] & rights, giver, "") for giver in givers]
        door[1] = door[1] + [(words, tuple(parts))]
        return len(door[1])

    def hear(self, task, slot):
        number = self.number(task, slot)
        door = self.things[self.handles[number][0]]
        refuse_if(door[0] != "door", "NoDeed hear")
        self.lacking(number, 8)
        refuse_if(door[1] == [], "Empty")
        words, parts = door[1][0]
        refuse_if(self.slots[task].count(None) < len([part for part in parts if part in self.handles]), "TooMany")
        door[1] = door[1][1:]
        told = []
        for part in parts:
            if part in self.handles:
                self.handles[part] = self.handles[part][:3] + (task,)
                told.append(self.put(task, part))
            else:
                told.append(None)
        return (words, told)

    def made_by(self, name):
        found = []
        for other in self.runs():
            if self.maker[other] == name:
                found += [other] + self.made_by(other)
        return found

    def whole(self):
        handles = [(number,) + self.handles[number] for number in sorted(self.handles)]
        tasks = []
        for name in self.runs():
            pairs = [(at, number) for at, number in enumerate(self.slots[name]) if number is not None]
            tasks.append((name, pairs, self.made_by(name), 16 - len(pairs)))
        things = []
        for number, thing in enumerate(self.things):
            told = tuple(thing)
            if thing[0] == "line":
                told = ("line",) + tuple(thing[1])
            if thing[0] == "door":
                told = ("door", len(thing[1]))
            things.append((number, number, told, thing[1] if thing[0] == "door" else []))
        return (handles, self.told, (self.names, tasks), things)


def word_of(error):
    name = type(error).__name__
    if isinstance(error, Lacks):
        return name + " " + str(error.missing)
    return name + " " + str(error.deed) if isinstance(error, NoDeed) else name


class ManyStepsTest(unittest.TestCase):
    def drawn(self, below):
        # A fixed row of numbers, the same in each run.
        self.state = (self.state * 6364136223846793005 + 1442695040888963407) % 2 ** 64
        return (self.state >> 33) % below

    def one_of(self, some):
        return some[self.drawn(len(some))]

    def task(self, plain):
        return self.one_of(NAMES[:20]) if self.drawn(12) == 0 else self.one_of(plain.runs())

    def slot(self, plain, task, kinds=None):
        slots = plain.slots.get(task, [None] * 16)
        fit = [at for at, number in enumerate(slots) if number is not None and
               (kinds is None or plain.things[plain.handles[number][0]][0] in kinds)]
        if not fit or self.drawn(12) == 0:
            return self.one_of([-1, 16, None, True, "0"] + list(range(16)))
        # The newest one often, so that chains grow.
        return self.one_of(fit) if self.drawn(2) else max(fit, key=lambda at: slots[at])

    def rights(self):
        if self.drawn(15) == 0:
            return self.one_of([64, -1, True, "look"])
        return self.one_of([63, 35, 49, 45, 32, 33, 1, 0, self.drawn(64)])

    def step(self, plain):
        task = self.task(plain)
        slot = self.slot(plain, task)
        # Walks of three sorts, since no single one comes by all the bounds: many tasks, long chains, many letters.
        deed = self.one_of(self.likely) if self.drawn(2) else self.drawn(100)
        if deed < 14:
            return (make, "make", task, self.one_of(["cell", "line", "door", "door", "post"]))
        if deed < 24:
            new = [name for name in NAMES if name not in plain.names] or NAMES
            return (start, "start", task, self.one_of([new[0], new[-1], self.one_of(NAMES), "", "abcdefghi", "a1"]))
        if deed < 32:
            return (narrow, "narrow", task, slot, self.rights())
        if deed < 52:
            other = self.task(plain)
            return (hand, "hand", task, slot, other) + self.one_of([(), (None,), (None,), (self.rights(),)])
        if deed < 55:
            return (call_back, "call_back", task, slot)
        if deed < 61:
            return (give_up, "give_up", task, slot)
        if deed < 74:
            return self.step_of_deed(plain, task, slot)
        if deed < 89:
            slots = [self.slot(plain, task) for _ in range(self.one_of([0, 1, 1, 2, 2, 3, 4, 4, 5]))]
            words = self.one_of(["", "hi", "a b", "x" * 20, "y" * 20, "z" * 21, "50%", None])
            rest = self.one_of([(), (slots,), (slots,), (tuple(slots),), (None,), (slots, self.rights())])
            return (send, "send", task, self.slot(plain, task, ("door",)), words) + rest
        return (hear, "hear", task, self.slot(plain, task, ("door",)))

    def step_of_deed(self, plain, task, slot):
        deeds = ["kind", "read", "write", "add", "push", "pull", "count", "state", "end", "send", "hear", "fly"]
        value = self.one_of([(), (7,), (-3,), (TOP,), (-TOP,), (TOP + 1,), (None,), (True,)])
        if type(slot) is int and 0 <= slot <= 15 and plain.slots.get(task, [None] * 16)[slot] is not None:
            kind = plain.things[plain.handles[plain.slots[task][slot]][0]][0]
            if self.drawn(5):
                deeds = list(NEEDS[kind])
        return (do, "do", task, slot, self.one_of(deeds)) + value

    def outcomes(self, kernel, plain, step):
        try:
            expected = ("told", getattr(plain, step[1])(*step[2:]))
        except Refused as refused:
            expected = ("refused", str(refused))
        try:
            found = ("told", step[0](kernel, *step[2:]))
        except PassError as error:
            found = ("refused", word_of(error))
        return (found, expected)

    def each_handle_is_where_it_belongs(self, kernel):
        in_letters = [part for thing in kernel.things.values() if thing.kind() == "door"
                      for letter in thing.letters() for part in letter.parts]
        places = {}
        for name in kernel.tasks.running():
            for _, number in kernel.tasks.slots(name):
                places.setdefault(number, []).append(name)
        for number in kernel.tree.kept():
            handle = kernel.tree.handle(number)
            if handle.holder == "":
                self.assertEqual(in_letters.count(number), 1)
                self.assertNotIn(number, places)
            else:
                self.assertEqual(places[number], [handle.holder])
            for above in kernel.tree.chain(number):
                self.assertEqual(handle.thing, kernel.tree.handle(above).thing)
                self.assertEqual(handle.rights & kernel.tree.handle(above).rights, handle.rights)
        self.assertLessEqual(set(places), set(kernel.tree.kept()))

    def test_many_steps(self):
        seen = set()
        for seed in range(12):
            self.state = seed
            self.likely = ((14, 20, 0), (32, 40, 45, 61), (74, 80, 89))[seed % 3]
            kernel, plain = begun("ta"), PlainKernel("ta")
            for _ in range(300):
                step = self.step(plain)
                ahead = whole(kernel)
                found, expected = self.outcomes(kernel, plain, step)
                self.assertEqual(found, expected, step)
                self.assertEqual(whole(kernel), plain.whole(), step)
                if found[0] == "refused":
                    self.assertEqual(whole(kernel), ahead, step)
                self.each_handle_is_where_it_belongs(kernel)
                seen.add((step[1], found[0], str(found[1]).split(" ")[0] if found[0] == "refused" else ""))
        # The walk is worth something only if it came by most refusals.
        for word in ("make NoKind", "make TooMany", "start Taken", "start NoName", "start TooMany", "narrow Lacks",
                     "hand Lacks", "hand NoTask", "hand TooMany", "do NoDeed", "do NoValue", "do Lacks", "send NoWords",
                     "send NoHandle", "send Lacks", "send TooMany", "send NoRights", "hear Empty", "hear Lacks"):
            name, refusal = word.split(" ")
            self.assertIn((name, "refused", refusal), seen)


if __name__ == "__main__":
    unittest.main()
