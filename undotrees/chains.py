"""Chains: lists of single steps that lead from a row to another one that is the same."""

from undotrees.errors import NoStep
from undotrees.rows import check_row, gone_on
from undotrees.steps import led_on
from undotrees.unlike import same

# The pair of a place is the place with its contrary row behind it. Each row is led to the pairs of all its places but
# that without signs, as Python sorts them, with its end behind: rows that are the same come to one such row, and the
# steps of the second are undone. No row on the way has more than 3720 signs. Each sign asks for two steps at most, and
# one for each pair that is there then: less than 2000 for 60 signs, so less than 4000 for both rows.


def paired(begin, last, end):
    """The steps that put a pair of the place gone to, or back from, ahead of the end, which stands at begin."""
    if len(end) > len(last):
        return [("more", begin, len(end))]
    if end == "":
        return []
    # Of the end, a sign off it and back: the end's own contrary row and the end come between, then past the two signs.
    return [("more", begin, len(end)), ("past", begin + len(end), len(end), 1)]


def settled(places, place, begin):
    """The steps that bring a place's pair, which stands at begin, to its number among the pairs of sorted places."""
    steps = []
    at = begin
    for ahead in places[::-1]:
        if ahead < place:
            return steps
        at -= 2 * len(ahead)
        if ahead == place:
            return steps + [("less", at, len(place))]
        steps.append(("past", at, len(ahead), len(place)))
    return steps


def to_pairs(row):
    """The steps that lead a row to the pairs of its places and its end."""
    steps = []
    places = []
    end = ""
    for sign in row:
        last = end
        end = gone_on(last, sign)
        place = max([last, end], key=len)
        begin = 2 * sum([len(ahead) for ahead in places])
        steps.extend(paired(begin, last, end))
        steps.extend(settled(places, place, begin))
        places = sorted(set(places + [place]))
    return steps


def undone(step):
    """The step that leads back."""
    if step[0] == "past":
        return ("past", step[1], step[3], step[2])
    return ("less" if step[0] == "more" else "more", step[1], step[2])


def chain(one, other):
    """A chain from a row to another one; None where they are not the same."""
    if not same(one, other):
        return None
    return to_pairs(one) + [undone(step) for step in to_pairs(other)[::-1]]


def is_chain(one, other, thing):
    """Whether a thing, of anything, is a chain from a row to another one."""
    check_row(one)
    check_row(other)
    if not isinstance(thing, list):
        return False
    try:
        return led_on(one, thing) == other
    except NoStep:
        return False
