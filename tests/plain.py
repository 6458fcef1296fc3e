"""The kernel told over again in plain rows: what the walks of many steps are held against."""

FITS = {"cell": 3, "line": 3, "door": 13, "post": 17}
NEEDS = {
    "cell": {"kind": 0, "read": 1, "write": 2, "add": 3},
    "line": {"kind": 0, "push": 2, "pull": 3, "count": 1},
    "door": {"kind": 0, "count": 1},
    "post": {"kind": 0, "state": 1, "end": 16},
}
TOP = 10 ** 12
WORDS = {1: "look", 2: "put", 4: "send", 8: "hear", 16: "end", 32: "pass"}


class Refused(Exception):
    pass


def refuse_if(condition, word):
    if condition:
        raise Refused(word)


def is_whole(thing):
    return type(thing) is int


def bits(rights):
    return [bit for bit in WORDS if rights & bit]


def words(rights, between=" "):
    return between.join([WORDS[bit] for bit in bits(rights)]) or "nothing"


class PlainKernel:
    def __init__(self, name):
        self.handles = {}
        self.told = 0
        self.names = [name]
        self.maker = {name: ""}
        self.slots = {name: [None] * 16}
        self.things = []

    def runs(self):
        return [name for name in self.names if name in self.slots]

    def chain(self, number):
        giver = self.handles[number][2]
        return ([] if giver is None else self.chain(giver)) + [number]

    def under(self, number):
        return [one for one in sorted(self.handles) if number in self.chain(one)]

    def remove(self, numbers):
        for number in numbers:
            self.handles.pop(number, None)
        for slots in self.slots.values():
            for at, number in enumerate(slots):
                if number in numbers:
                    slots[at] = None

    def new(self, thing, rights, giver, holder):
        self.handles[self.told] = (thing, rights, giver, holder)
        self.told += 1
        return self.told - 1

    def put(self, task, number):
        at = self.slots[task].index(None)
        self.slots[task][at] = number
        return at

    def number(self, task, slot):
        refuse_if(task not in self.slots, "NoTask")
        refuse_if(not is_whole(slot) or not 0 <= slot <= 15 or self.slots[task][slot] is None, "NoHandle")
        return self.slots[task][slot]

    def lacking(self, number, rights):
        lacking = rights & (63 - self.handles[number][1])
        refuse_if(lacking, "Lacks " + str(lacking))

    def root(self, task, kind, rest):
        self.things.append([kind] + rest)
        return self.put(task, self.new(len(self.things) - 1, FITS[kind] + 32, None, task))

    def make(self, task, kind):
        refuse_if(task not in self.slots, "NoTask")
        refuse_if(kind not in ("cell", "line", "door"), "NoKind")
        refuse_if(len(self.things) == 40 or None not in self.slots[task], "TooMany")
        return self.root(task, kind, [0] if kind == "cell" else [[]])

    def start(self, task, name):
        refuse_if(task not in self.slots, "NoTask")
        refuse_if(name == "" or not name.isalpha() or not name.islower() or len(name) > 8, "NoName")
        refuse_if(name in self.names, "Taken")
        refuse_if(len(self.slots) == 12 or len(self.things) == 40 or None not in self.slots[task], "TooMany")
        self.names.append(name)
        self.maker[name] = task
        self.slots[name] = [None] * 16
        return self.root(task, "post", [name, True])

    def lower(self, number, rights, task):
        refuse_if(None not in self.slots[task] or len(self.chain(number)) == 40, "TooMany")
        return self.put(task, self.new(self.handles[number][0], rights, number, task))

    def narrow(self, task, slot, rights):
        number = self.number(task, slot)
        refuse_if(not is_whole(rights) or not 0 <= rights <= 63, "NoRights")
        self.lacking(number, rights)
        return self.lower(number, rights, task)

    def hand(self, task, slot, other, rights=None):
        number = self.number(task, slot)
        refuse_if(other not in self.slots, "NoTask")
        rights = self.handles[number][1] if rights is None else rights
        refuse_if(not is_whole(rights) or not 0 <= rights <= 63, "NoRights")
        self.lacking(number, rights | 32)
        return self.lower(number, rights, other)

    def back(self, task, slot):
        gone = self.under(self.number(task, slot))
        gone.remove(self.number(task, slot))
        self.remove(gone)
        return len(gone)

    def give(self, task, slot):
        gone = self.under(self.number(task, slot))
        self.remove(gone)
        return len(gone)

    def do(self, task, slot, deed, value=0):
        number = self.number(task, slot)
        thing = self.things[self.handles[number][0]]
        refuse_if(deed not in NEEDS[thing[0]], "NoDeed " + str(deed))
        refuse_if(not is_whole(value) or not -TOP <= value <= TOP, "NoValue")
        self.lacking(number, NEEDS[thing[0]][deed])
        if deed == "kind":
            return thing[0]
        return getattr(self, "do_" + thing[0])(thing, deed, value)

    def do_cell(self, cell, deed, value):
        ahead = cell[1]
        if deed == "read":
            return ahead
        after = value if deed == "write" else ahead + value
        refuse_if(not -TOP <= after <= TOP, "TooGreat")
        cell[1] = after
        return ahead if deed == "write" else after

    def do_line(self, line, deed, value):
        if deed == "count":
            return len(line[1])
        if deed == "push":
            refuse_if(len(line[1]) == 9, "Full")
            line[1] = line[1] + [value]
            return len(line[1])
        refuse_if(line[1] == [], "Empty")
        first, line[1] = line[1][0], line[1][1:]
        return first

    def do_door(self, door, deed, value):
        return len(door[1])

    def descends(self, name, above):
        return name == above or name != "" and self.descends(self.maker[name], above)

    def do_post(self, post, deed, value):
        if deed == "state":
            return "runs" if post[2] else "ended"
        ended = [name for name in self.runs() if self.descends(name, post[1])]
        gone = []
        for number in sorted(self.handles):
            thing = self.things[self.handles[number][0]]
            if any(number in self.slots[name] for name in ended) or thing[0] == "post" and thing[1] in ended:
                gone += self.under(number)
        self.remove(gone)
        for name in ended:
            del self.slots[name]
        for thing in self.things:
            if thing[0] == "post" and thing[1] in ended:
                thing[2] = False
        return len(ended)

    def send(self, task, slot, words, slots=None, rights=63):
        number = self.number(task, slot)
        door = self.things[self.handles[number][0]]
        refuse_if(door[0] != "door", "NoDeed send")
        refuse_if(not isinstance(words, str) or len(words) > 20 or "%" in words or "\n" in words, "NoWords")
        slots = [] if slots is None else slots
        refuse_if(len(slots) > 4, "TooMany")
        givers = [self.number(task, one) for one in slots]
        refuse_if(not is_whole(rights) or not 0 <= rights <= 63, "NoRights")
        self.lacking(number, 4)
        for giver in givers:
            self.lacking(giver, 32)
        refuse_if(any(len(self.chain(giver)) == 40 for giver in givers), "TooMany")
        refuse_if(len(door[1]) == 8, "Full")
        parts = [self.new(self.handles[giver][0], self.handles[giver][1] & rights, giver, "") for giver in givers]
        door[1] = door[1] + [(words, tuple(parts))]
        return len(door[1])

    def hear(self, task, slot):
        number = self.number(task, slot)
        door = self.things[self.handles[number][0]]
        refuse_if(door[0] != "door", "NoDeed hear")
        self.lacking(number, 8)
        refuse_if(door[1] == [], "Empty")
        words, parts = door[1][0]
        refuse_if(self.slots[task].count(None) < len([part for part in parts if part in self.handles]), "TooMany")
        door[1] = door[1][1:]
        told = []
        for part in parts:
            if part in self.handles:
                self.handles[part] = self.handles[part][:3] + (task,)
                told.append(self.put(task, part))
            else:
                told.append(None)
        return (words, told)

    def made_by(self, name):
        found = []
        for other in self.runs():
            if self.maker[other] == name:
                found += [other] + self.made_by(other)
        return found

    def whole(self):
        handles = [(number,) + self.handles[number] for number in sorted(self.handles)]
        tasks = []
        for name in self.runs():
            pairs = [(at, number) for at, number in enumerate(self.slots[name]) if number is not None]
            tasks.append((name, pairs, self.made_by(name), 16 - len(pairs)))
        things = []
        for number, thing in enumerate(self.things):
            told = tuple(thing)
            if thing[0] == "line":
                told = ("line",) + tuple(thing[1])
            if thing[0] == "door":
                told = ("door", len(thing[1]))
            things.append((number, number, told, thing[1] if thing[0] == "door" else []))
        return (handles, self.told, (self.names, tasks), things)

    def came_of(self, row):
        """What a row of the log tells; the refusal's word has the number of what is missing, or the deed."""
        try:
            return ("told", getattr(self, row[1])(row[0], *row[2:]))
        except Refused as refused:
            return ("refused", str(refused))

    def had(self, task):
        return [self.handles[number][:2] for number in self.slots[task] if number is not None]

    def can(self, task, thing):
        return sum([bit for bit in WORDS if any(at == thing and rights & bit for at, rights in self.had(task))])

    def who(self, thing, rights):
        return [name for name in self.runs() if any(at == thing and had & rights == rights
                                                    for at, had in self.had(name))]

    def chain_of(self, task, slot):
        return [(self.handles[number][3], self.handles[number][1]) for number in self.chain(self.number(task, slot))]

    def given_below(self, number, far):
        found = []
        for lower in sorted(self.handles):
            if self.handles[lower][2] == number:
                found += [(far, self.handles[lower][3], self.handles[lower][1])] + self.given_below(lower, far + 1)
        return found

    def given_to(self, task, slot):
        return self.given_below(self.number(task, slot), 1)

    def book(self):
        pages = [(name, [(at, self.can(name, at)) for at in range(len(self.things))]) for name in self.runs()]
        return [(name, [pair for pair in page if pair[1]]) for name, page in pages]

    def could(self, still):
        """From each right that might be had, as a triple of a task, a thing and a single right, to True. The
        task without a name stands for what is passed on; one that is still has it, too."""
        acting = [name for name in self.runs() if name not in still]
        facts = {}
        size = -1
        while size != len(facts):
            size = len(facts)
            for name in self.runs():
                for thing, rights in self.had(name):
                    self.came_to(facts, name, thing, rights, name in acting)
                for whose, thing, bit in list(facts):
                    if whose == "":
                        facts[(name, thing, bit)] = True
            for name, door in [(name, door) for name in acting for door in range(len(self.things))]:
                if (name, door, 8) in facts:
                    for part in self.parts_at(door):
                        self.came_to(facts, name, self.handles[part][0], self.handles[part][1], True)
        return facts

    def came_to(self, facts, name, thing, rights, acts):
        for bit in bits(rights):
            facts[(name, thing, bit)] = True
            if acts and rights & 32:
                facts[("", thing, bit)] = True

    def parts_at(self, door):
        letters = self.things[door][1] if self.things[door][0] == "door" else []
        return [part for _, parts in letters for part in parts if part in self.handles]

    def shown(self):
        rows = []
        for name in self.runs():
            slots = [f" {at}:{number}" for at, number in enumerate(self.slots[name]) if number is not None]
            rows.append(f"task {name}" + "".join(slots))
        for number, thing in enumerate(self.things):
            rest = {"cell": lambda: f" {thing[1]}",
                    "line": lambda: "".join([f" {one}" for one in thing[1]]),
                    "door": lambda: f" {len(thing[1])}" + "".join([
                        f" [{said}]" + "".join([f" {part}" for part in parts]) for said, parts in thing[1]]),
                    "post": lambda: f" {thing[1]} {thing[2]}"}
            rows.append(f"thing {number} {thing[0]}" + rest[thing[0]]())
        for number, (thing, rights, giver, holder) in sorted(self.handles.items()):
            above = "-" if giver is None else giver
            rows.append(f"handle {number} {above} {thing} {words(rights, '+')} {holder or '-'}")
        return rows
