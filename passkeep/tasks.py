"""Tasks by their names: which made which, which run, and what stands in their slots."""

from passkeep.errors import NoHandle, NoName, NoTask, Taken, TooMany
from passkeep.rights import is_name, is_number

MOST_RUNNING = 12
SLOT_COUNT = 16


class Tasks:
    def __init__(self):
        # From each name that a task ever had to the name of its maker.
        self.makers = {}
        # From each running task to its slots that are not empty. No name comes twice, so the order is that of adding.
        self.filled = {}

    def need(self, name):
        # The text first, since what is none need not be fit for a look-up.
        if not isinstance(name, str) or name not in self.filled:
            raise NoTask("no such task runs")

    def need_new(self, name):
        if not is_name(name):
            raise NoName("a name has 1 to 8 letters from a to z")
        if name in self.makers:
            raise Taken("a task has or had this name")

    def added(self, name, maker):
        self.need_new(name)
        if not isinstance(maker, str) or maker != "":
            self.need(maker)
        if len(self.filled) >= MOST_RUNNING:
            raise TooMany("as many tasks run as may")
        self.makers[name] = maker
        self.filled[name] = {}

    def running(self):
        return list(self.filled)

    def names(self):
        return list(self.makers)

    def put(self, name, number):
        self.need(name)
        filled = self.filled[name]
        empty = [slot for slot in range(SLOT_COUNT) if slot not in filled]
        if len(empty) == 0:
            raise TooMany("the task has no empty slot")
        filled[empty[0]] = number
        return empty[0]

    def at(self, name, slot):
        self.need(name)
        filled = self.filled[name]
        # The number first: 1 and True are one key to a dict.
        if not is_number(slot) or slot not in filled:
            raise NoHandle("there is no handle in such a slot")
        return filled[slot]

    def free(self, name):
        self.need(name)
        return SLOT_COUNT - len(self.filled[name])

    def emptied(self, name, number):
        filled = self.filled[name]
        found = [slot for slot in filled if filled[slot] == number]
        for slot in found:
            filled.pop(slot)
        return len(found)

    def taken_out(self, number):
        if not is_number(number):
            return 0
        return sum([self.emptied(name, number) for name in self.running()])

    def slots(self, name):
        self.need(name)
        filled = self.filled[name]
        return [(slot, filled[slot]) for slot in sorted(filled)]

    # May ask itself: no more tasks stand below one another than may run.
    def made_by(self, name):
        self.need(name)
        found = []
        for other in self.filled:
            if self.makers[other] == name:
                found.append(other)
                found.extend(self.made_by(other))
        return found

    def stopped(self, name):
        ended = [name] + self.made_by(name)
        for other in ended:
            self.filled.pop(other)
        return ended
