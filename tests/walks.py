"""Walks of many steps, drawn from a fixed row of numbers: the same in each run."""

from plain import NEEDS, TOP

NAMES = ["t" + letter for letter in "abcdefghijklmnopqrstuvwxyz"]
# Walks of three sorts, since no single one comes by all the bounds: many tasks, long chains, many letters.
SORTS = ((14, 20, 0), (32, 40, 45, 61), (74, 80, 89))


class Walk:
    def __init__(self, seed):
        self.state = seed
        self.likely = SORTS[seed % 3]

    def drawn(self, below):
        self.state = (self.state * 6364136223846793005 + 1442695040888963407) % 2 ** 64
        return (self.state >> 33) % below

    def one_of(self, some):
        return some[self.drawn(len(some))]

    def task(self, plain, still=()):
        if self.drawn(12) == 0:
            return self.one_of([name for name in NAMES[:20] if name not in still])
        # Where all are still, one that never runs.
        return self.one_of([name for name in plain.runs() if name not in still] or ["zed"])

    def slot(self, plain, task, kinds=None):
        slots = plain.slots.get(task, [None] * 16)
        fit = [at for at, number in enumerate(slots) if number is not None and
               (kinds is None or plain.things[plain.handles[number][0]][0] in kinds)]
        if not fit or self.drawn(12) == 0:
            return self.one_of([-1, 16, None, True, "0"] + list(range(16)))
        # The newest one often, so that chains grow.
        return self.one_of(fit) if self.drawn(2) else max(fit, key=lambda at: slots[at])

    def rights(self):
        if self.drawn(15) == 0:
            return self.one_of([64, -1, True, "look"])
        return self.one_of([63, 35, 49, 45, 32, 33, 1, 0, self.drawn(64)])

    def row(self, plain, still=()):
        """A row as the log takes it, by a task that is not still."""
        task = self.task(plain, still)
        slot = self.slot(plain, task)
        deed = self.one_of(self.likely) if self.drawn(2) else self.drawn(100)
        if deed < 14:
            return (task, "make", self.one_of(["cell", "line", "door", "door", "post"]))
        if deed < 24:
            new = [name for name in NAMES if name not in plain.names] or NAMES
            return (task, "start", self.one_of([new[0], new[-1], self.one_of(NAMES), "", "abcdefghi", "a1"]))
        if deed < 32:
            return (task, "narrow", slot, self.rights())
        if deed < 52:
            return (task, "hand", slot, self.task(plain)) + self.one_of([(), (None,), (None,), (self.rights(),)])
        if deed < 55:
            return (task, "back", slot)
        if deed < 61:
            return (task, "give", slot)
        if deed < 74:
            return self.row_of_deed(plain, task, slot)
        if deed < 89:
            slots = [self.slot(plain, task) for _ in range(self.one_of([0, 1, 1, 2, 2, 3, 4, 4, 5]))]
            words = self.one_of(["", "hi", "a b", "x" * 20, "y" * 20, "z" * 21, "50%", None])
            rest = self.one_of([(), (slots,), (slots,), (tuple(slots),), (None,), (slots, self.rights())])
            return (task, "send", self.slot(plain, task, ("door",)), words) + rest
        return (task, "hear", self.slot(plain, task, ("door",)))

    def row_of_deed(self, plain, task, slot):
        deeds = ["kind", "read", "write", "add", "push", "pull", "count", "state", "end", "send", "hear", "fly"]
        value = self.one_of([(), (7,), (-3,), (TOP,), (-TOP,), (TOP + 1,), (None,), (True,)])
        if type(slot) is int and 0 <= slot <= 15 and plain.slots.get(task, [None] * 16)[slot] is not None:
            kind = plain.things[plain.handles[plain.slots[task][slot]][0]][0]
            if self.drawn(5):
                deeds = list(NEEDS[kind])
        return (task, "do", slot, self.one_of(deeds)) + value
