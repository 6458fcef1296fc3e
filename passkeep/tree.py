"""The tree of handles: which stands below which, and what goes when one is cut."""

from passkeep.errors import Lacks, NoHandle, TooMany
from passkeep.rights import is_number, missing, within

LONGEST_CHAIN = 40


class Handle:
    def __init__(self, number, thing, rights, giver, holder):
        self.number = number
        self.thing = thing
        self.rights = rights
        self.giver = giver
        self.holder = holder


class Tree:
    def __init__(self):
        self.handles = {}
        # From each number that is kept to those right below it, which come rising as they are made.
        self.offspring = {}
        # Only ever raised, so that no number is told again behind a cut.
        self.following = 0

    def keeps(self, number):
        # The number first: 1 and True, or 0 and 0.0, are one key to a dict.
        return is_number(number) and number in self.handles

    def need_kept(self, number):
        if not self.keeps(number):
            raise NoHandle("no such handle is kept")

    def need_room_below(self, number):
        if len(self.chain(number)) >= LONGEST_CHAIN:
            raise TooMany("the chain has as many handles as it may")

    def keep(self, thing, rights, giver, holder):
        number = self.following
        self.following = number + 1
        self.handles[number] = Handle(number, thing, rights, giver, holder)
        self.offspring[number] = {}
        return number

    def rooted(self, thing, rights, holder):
        return self.keep(thing, rights, None, holder)

    def derived(self, number, rights, holder):
        giver = self.handle(number)
        if not within(rights, giver.rights):
            raise Lacks(missing(rights, giver.rights))
        self.need_room_below(number)
        made = self.keep(giver.thing, rights, giver.number, holder)
        self.offspring[number][made] = True
        return made

    # A copy, since what is told is the asker's own.
    def handle(self, number):
        self.need_kept(number)
        kept = self.handles[number]
        return Handle(kept.number, kept.thing, kept.rights, kept.giver, kept.holder)

    def held(self, number, holder):
        self.need_kept(number)
        kept = self.handles[number]
        kept.holder = holder

    # May ask itself: the longest chain bounds how deep that goes.
    def below(self, number):
        self.need_kept(number)
        found = []
        for child in self.offspring[number]:
            found.append(child)
            found.extend(self.below(child))
        return found

    def chain(self, number):
        self.need_kept(number)
        upward = []
        step = number
        while step is not None:
            upward.append(step)
            step = self.handles[step].giver
        return list(reversed(upward))

    def cut(self, number):
        gone = sorted([number] + self.below(number))
        giver = self.handles[number].giver
        if giver is not None:
            self.offspring[giver].pop(number)
        for taken in gone:
            self.handles.pop(taken)
            self.offspring.pop(taken)
        return gone

    def kept(self):
        return sorted(self.handles)
