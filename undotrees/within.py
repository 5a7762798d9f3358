"""What can be done wherever another row can; what only looks; what both of two walks do, and what is common to them."""

from undotrees.errors import NoEnd
from undotrees.rows import plain
from undotrees.walks import Walk, check_many, each_once, lies_within, walk_of


def is_within(one, other):
    """Whether the first row can be done wherever the second one can."""
    return lies_within(walk_of(one), walk_of(other))


def not_within(one, other):
    """A world and a thing of it, from which the second row can be done and the first can't; None if there is none."""
    if is_within(one, other):
        return None
    # In its own walk's world the second can be done, and a row that leaves its tree can't.
    return (walk_of(other).world(), 0)


def only_looks(row):
    """Whether a row comes back to the thing from which it was done."""
    return plain(row) == ""


def does_more(one, other):
    """Whether the first row does all that the second one does."""
    return is_within(one, other) and plain(one) == plain(other)


def check_ends(one, other):
    """Refuse two walks with unlike ends."""
    if one.end() != other.end():
        raise NoEnd(other.end())


def both(one, other):
    """The walk of all places of both walks."""
    check_ends(one, other)
    places = each_once(one.places() + other.places())
    check_many(len(places))
    return Walk(places, one.end())


def common(one, other):
    """The walk of the places that are in both walks."""
    check_ends(one, other)
    shared = other.places()
    return Walk([place for place in one.places() if place in shared], one.end())
