"""The things on which deeds are done: cells, lines, doors and posts."""

from passkeep.errors import Empty, Full, NoDeed, TooGreat
from passkeep.rights import END, HEAR, LOOK, PUT, SEND, is_value

LINE_ROOM = 9
DOOR_ROOM = 8


def put_last(waiting, one, room):
    if len(waiting) >= room:
        raise Full("there is no room for one more")
    waiting.append(one)
    return len(waiting)


def first_out(waiting):
    if len(waiting) == 0:
        raise Empty("there is none to take out")
    return waiting.pop(0)


# What all things share. The four kinds below it say what is theirs alone.
class Thing:
    def __init__(self, number):
        self.number = number

    def kind(self):
        return "thing"

    def fits(self):
        return 0

    def told(self):
        return (self.kind(),)

    def own_needs(self):
        return {}

    # Reached only with a deed that own_needs has.
    def own_did(self, deed, value):
        raise NoDeed(deed)

    def needs(self, deed):
        # Ahead of the look-up, since what is no text need not be fit for one.
        if not isinstance(deed, str):
            raise NoDeed(deed)
        if deed == "kind":
            return 0
        needed = self.own_needs()
        if deed not in needed:
            raise NoDeed(deed)
        return needed[deed]

    def did(self, deed, value):
        # Asked for its refusal alone: so the kinds can take what is left over for their last deed.
        self.needs(deed)
        if deed == "kind":
            return self.kind()
        return self.own_did(deed, value)


class Cell(Thing):
    def __init__(self, number):
        Thing.__init__(self, number)
        self.amount = 0

    def kind(self):
        return "cell"

    def fits(self):
        return LOOK | PUT

    def told(self):
        return ("cell", self.amount)

    def own_needs(self):
        return {"read": LOOK, "write": PUT, "add": LOOK | PUT}

    def own_did(self, deed, value):
        if deed == "read":
            return self.amount
        if deed == "write":
            ahead = self.amount
            self.amount = value
            return ahead
        total = self.amount + value
        if not is_value(total):
            raise TooGreat("the sum is no value")
        self.amount = total
        return total


class Line(Thing):
    def __init__(self, number):
        Thing.__init__(self, number)
        self.numbers = []

    def kind(self):
        return "line"

    def fits(self):
        return LOOK | PUT

    def told(self):
        return ("line",) + tuple(self.numbers)

    def own_needs(self):
        return {"push": PUT, "pull": LOOK | PUT, "count": LOOK}

    def own_did(self, deed, value):
        if deed == "push":
            return put_last(self.numbers, value, LINE_ROOM)
        if deed == "pull":
            return first_out(self.numbers)
        return len(self.numbers)


class Door(Thing):
    def __init__(self, number):
        Thing.__init__(self, number)
        self.waiting = []

    def kind(self):
        return "door"

    def fits(self):
        return LOOK | SEND | HEAR

    def told(self):
        return ("door", len(self.waiting))

    def letters(self):
        return list(self.waiting)

    def own_needs(self):
        return {"count": LOOK, "send": SEND, "hear": HEAR}

    def own_did(self, deed, value):
        if deed == "send":
            return put_last(self.waiting, value, DOOR_ROOM)
        if deed == "hear":
            return first_out(self.waiting)
        return len(self.waiting)


class Post(Thing):
    def __init__(self, number, name):
        Thing.__init__(self, number)
        self.name = name
        self.runs = True

    def kind(self):
        return "post"

    def fits(self):
        return LOOK | END

    def told(self):
        return ("post", self.name, self.runs)

    def own_needs(self):
        return {"state": LOOK, "end": END}

    def own_did(self, deed, value):
        if deed == "end":
            self.runs = False
            return self.name
        return "runs" if self.runs else "ended"
