"""What is done by a handle: calling back, giving up, and the deeds of things."""

from passkeep.errors import NoDeed, NoValue
from passkeep.kernel import handle_at, need_rights
from passkeep.rights import is_value
from passkeep.things import Post


def gone_with(kernel, number):
    gone = kernel.tree.cut(number)
    for lower in gone:
        kernel.tasks.taken_out(lower)
    return len(gone)


def right_below(kernel, number):
    return [lower for lower in kernel.tree.below(number) if kernel.tree.handle(lower).giver == number]


def call_back(kernel, task, slot):
    count = 0
    for lower in right_below(kernel, handle_at(kernel, task, slot).number):
        count = count + gone_with(kernel, lower)
    return count


def give_up(kernel, task, slot):
    return gone_with(kernel, handle_at(kernel, task, slot).number)


def in_slots(kernel, names):
    found = []
    for name in names:
        found.extend([number for slot, number in kernel.tasks.slots(name)])
    return found


def posts_of(kernel, names):
    posts = [thing for thing in kernel.things.values() if isinstance(thing, Post)]
    return [post for post in posts if post.name in names]


def handles_to(kernel, things):
    wanted = [thing.number for thing in things]
    return [number for number in kernel.tree.kept() if kernel.tree.handle(number).thing in wanted]


def ended(kernel, name):
    runs = name in kernel.tasks.running()
    names = ([name] + kernel.tasks.made_by(name)) if runs else []
    # Asked ahead of the end, behind which the slots are empty.
    going = in_slots(kernel, names)
    if runs:
        kernel.tasks.stopped(name)
    # The post's own task counts where it ran no more, too: the deed is done to its post all the same.
    posts = posts_of(kernel, [name] + names)
    for post in posts:
        post.did("end", 0)
    for number in going + handles_to(kernel, posts):
        # One may stand below another that went just now.
        if kernel.tree.keeps(number):
            gone_with(kernel, number)
    return len(names)


def do(kernel, task, slot, deed, value=0):
    handle = handle_at(kernel, task, slot)
    thing = kernel.things[handle.thing]
    needed = thing.needs(deed)
    # Only a door has these two; they are for letters.
    if deed in ("send", "hear"):
        raise NoDeed(deed)
    if not is_value(value):
        raise NoValue("a value is a number from -10 ** 12 to 10 ** 12")
    need_rights(needed, handle.rights)
    if isinstance(thing, Post) and deed == "end":
        return ended(kernel, thing.name)
    return thing.did(deed, value)
