"""The shortest rows of a walk, by their numbers."""

from undotrees.basics import CONTRARIES, is_whole_in
from undotrees.errors import NoNumber
from undotrees.rows import gone_on


def branches(walk):
    """For each place the signs, in order, of the steps off the way to the end."""
    found = {place: [] for place in walk.places()}
    for place in walk.places():
        if not walk.end().startswith(place):
            found[place[:-1]].append(place[-1])
    return found


def way_on(place, end):
    """The sign by which one goes on from a place where all off the way is done: on to the end, or back to the way."""
    if end.startswith(place):
        return end[len(place)]
    return CONTRARIES[place[-1]]


def signs_many(walk):
    """How many signs the shortest rows have."""
    return 2 * (len(walk) - 1) - len(walk.end())


def shortest_many(walk):
    """How many shortest rows there are."""
    many = 1
    for signs in branches(walk).values():
        for number in range(len(signs)):
            many = many * (number + 1)
    return many


# Wherever there is a choice, as many rows come of each sign: what is left to be done is the same, but for its order.

def shortest_at(walk, number=0):
    """The shortest row of a number."""
    many = shortest_many(walk)
    if not is_whole_in(number, 0, many - 1):
        raise NoNumber(number)
    left = branches(walk)
    rest = number
    place = ""
    signs = []
    for step in range(signs_many(walk)):
        if left[place]:
            many = many // len(left[place])
            which, rest = divmod(rest, many)
            sign = left[place].pop(which)
        else:
            sign = way_on(place, walk.end())
        signs.append(sign)
        place = gone_on(place, sign)
    return "".join(signs)


def shortest_number(walk, thing):
    """The number of a shortest row; None of a thing, of anything, that is none."""
    if not isinstance(thing, str) or len(thing) != signs_many(walk):
        return None
    many = shortest_many(walk)
    left = branches(walk)
    number = 0
    place = ""
    for sign in thing:
        choices = left[place] if left[place] else [way_on(place, walk.end())]
        if sign not in choices:
            return None
        many = many // len(choices)
        number += many * choices.index(sign)
        choices.remove(sign)
        place = gone_on(place, sign)
    return number
