"""Whether two rows are the same, and worlds in which they do unlike."""

from undotrees.basics import is_whole_in
from undotrees.rows import check_row
from undotrees.walks import lies_within, walk_of
from undotrees.worlds import World


def same(one, other):
    """Whether two rows are the same."""
    return walk_of(one) == walk_of(other)


def unlike(one, other):
    """A world and a thing of it, from which two rows do unlike; None where they are the same."""
    first = walk_of(one)
    second = walk_of(other)
    if first == second:
        return None
    # In the world of its own walk a row can be done. The other one can't where its tree goes beyond,
    # or else comes to another end.
    if lies_within(first, second):
        return (first.world(), 0)
    return (second.world(), 0)


def is_thing_of_world(thing):
    """Whether a thing, of anything, is a tuple of a world and a thing of it."""
    if not isinstance(thing, tuple) or len(thing) != 2 or not isinstance(thing[0], World):
        return False
    return is_whole_in(thing[1], 0, len(thing[0]) - 1)


def tells_unlike(one, other, thing):
    """Whether a thing, of anything, is a world and a thing of it, from which two rows do unlike."""
    check_row(one)
    check_row(other)
    if not is_thing_of_world(thing):
        return False
    world, begin = thing
    return world.led(one, begin) != world.led(other, begin)
