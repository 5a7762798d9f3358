"""Trees: their codes, how many there are, and their numbers."""

from undotrees.basics import CONTRARIES, SIGNS, is_whole_in
from undotrees.errors import NoNumber, NoSign
from undotrees.walks import Walk

MOST_DEEDS = 3
MOST_NUMBERED = 40


def check_few_deeds(deeds):
    """Refuse what is no number of deeds of numbered trees."""
    if not is_whole_in(deeds, 1, MOST_DEEDS):
        raise NoNumber(deeds)


def check_numbered(places):
    """Refuse what is no number of places of numbered trees."""
    if not is_whole_in(places, 1, MOST_NUMBERED):
        raise NoNumber(places)


def coming_key(place):
    """What Python sorts as one comes to the places of a tree."""
    return [SIGNS.index(sign) for sign in place]


def signs_on(place, deeds):
    """The signs, in order, by which one may go on from a place."""
    back = CONTRARIES[place[-1]] if place else ""
    return [sign for sign in SIGNS[:2 * deeds] if sign != back]


def signs_marked(place, mark, deeds):
    """The signs, in order, that a place's mark counts."""
    return [sign for number, sign in enumerate(signs_on(place, deeds)) if (mark >> number) & 1]


def mark_of(place, places, deeds):
    """The mark of a place of a tree."""
    return sum([1 << number for number, sign in enumerate(signs_on(place, deeds)) if place + sign in places])


def code_of(walk, deeds=2):
    """The code of a walk's tree: the marks of its places, as one comes to them."""
    check_few_deeds(deeds)
    places = walk.places()
    signs = SIGNS[:2 * deeds]
    if not all([sign in signs for place in places for sign in place]):
        raise NoSign(None)
    return [mark_of(place, places, deeds) for place in sorted(places, key=coming_key)]


def size_of(mark):
    """How many signs a mark counts."""
    many = 0
    rest = mark
    while rest > 0:
        many += rest & 1
        rest = rest >> 1
    return many


def ways_with(ways, left, marked):
    """How many codes go on with so many places left, of which so many are marked, by a table of these."""
    return ways[left][marked] if marked <= left else 0


def ways_on(places, deeds):
    """The table of how many codes go on: a list for each number of places left, below the told one."""
    # The first place is not among those that are left, so from each of them there is one sign less to go on by.
    sizes = [size_of(mark) for mark in range(1 << (2 * deeds - 1))]
    ways = [[1]]
    for left in range(1, places):
        # One of the marked places is come to: its own mark marks others.
        ways.append([0] + [
            sum([ways_with(ways, left - 1, marked + size) for size in sizes])
            for marked in range(left)
        ])
    return ways


def trees_many(places, deeds=2):
    """How many trees with so many places there are."""
    check_few_deeds(deeds)
    check_numbered(places)
    ways = ways_on(places, deeds)
    return sum([ways_with(ways, places - 1, size_of(mark)) for mark in range(1 << (2 * deeds))])


def tree_at(places, number, deeds=2):
    """The walk with the tree of a number, its end the row without signs."""
    if not is_whole_in(number, 0, trees_many(places, deeds) - 1):
        raise NoNumber(number)
    ways = ways_on(places, deeds)
    rest = number
    found = []
    due = [""]
    while due:
        place = due.pop()
        found.append(place)
        mark = 0
        many = ways_with(ways, places - len(found), len(due))
        while rest >= many:
            rest -= many
            mark += 1
            many = ways_with(ways, places - len(found), len(due) + size_of(mark))
        due.extend([place + sign for sign in signs_marked(place, mark, deeds)[::-1]])
    return Walk(found)


def tree_number(walk, deeds=2):
    """The number of a walk's tree."""
    code = code_of(walk, deeds)
    check_numbered(len(code))
    ways = ways_on(len(code), deeds)
    number = 0
    marked = 1
    for place, mark in enumerate(code):
        left = len(code) - place - 1
        marked -= 1
        number += sum([ways_with(ways, left, marked + size_of(lesser)) for lesser in range(mark)])
        marked += size_of(mark)
    return number
