"""Rows of signs: contraries, plain rows, their deeds, their order and their numbers."""

from undotrees.basics import CONTRARIES, DEEDS, SIGNS, is_whole_in
from undotrees.errors import NoNumber, NoRow, NoSign

MOST_SIGNS = 60


def has_signs(thing, most):
    """Whether a thing, of anything, is a text of none to so many signs."""
    if not isinstance(thing, str) or len(thing) > most:
        return False
    return all([sign in SIGNS for sign in thing])


def is_row(thing):
    """Whether a thing, of anything, is a row."""
    return has_signs(thing, MOST_SIGNS)


def check_row(row):
    """Refuse what is no row."""
    if not is_row(row):
        raise NoRow(row)


# What comes between rows may be longer than a row, so these three take signs of any number.

def turned(signs):
    """The contraries of signs, the last one first."""
    return "".join([CONTRARIES[sign] for sign in signs[::-1]])


def gone_on(place, sign):
    """A plain row with a sign behind it, made plain."""
    if place and place[-1] == CONTRARIES[sign]:
        return place[:-1]
    return place + sign


def made_plain(signs):
    """Signs without neighbours of which each is the contrary of the other."""
    place = ""
    for sign in signs:
        place = gone_on(place, sign)
    return place


def contrary(row):
    """The row with the contraries of the signs, the last one first."""
    check_row(row)
    return turned(row)


def plain(row):
    """The row without neighbours of which each is the contrary of the other."""
    check_row(row)
    return made_plain(row)


def is_plain(thing):
    """Whether a thing, of anything, is a plain row."""
    return is_row(thing) and made_plain(thing) == thing


def deeds_of(row):
    """The deeds that stand in a row, or whose undoings do: a sorted tuple."""
    check_row(row)
    return tuple([deed for deed in DEEDS if deed in row or CONTRARIES[deed] in row])


def row_key(row):
    """What Python sorts as rows are ordered."""
    return (len(row), [SIGNS.index(sign) for sign in row])


def before(one, other):
    """Whether the first row is ahead of the second one."""
    check_row(one)
    check_row(other)
    return row_key(one) < row_key(other)


def check_deeds(deeds):
    """Refuse what is no number of deeds."""
    if not is_whole_in(deeds, 1, len(DEEDS)):
        raise NoNumber(deeds)


def last_number(base):
    """The number of the last row over so many signs."""
    number = 0
    for place in range(MOST_SIGNS):
        number = number * base + base
    return number


def number_of(row, deeds=2):
    """The number of a row among all rows over the first deeds."""
    check_row(row)
    check_deeds(deeds)
    base = 2 * deeds
    number = 0
    for place, sign in enumerate(row):
        worth = SIGNS.index(sign)
        if worth >= base:
            raise NoSign(place)
        # Figures from 1 to base, none of them 0, count shorter rows ahead of longer ones.
        number = number * base + worth + 1
    return number


def row_at(number, deeds=2):
    """The row of a number among all rows over the first deeds."""
    check_deeds(deeds)
    base = 2 * deeds
    if not is_whole_in(number, 0, last_number(base)):
        raise NoNumber(number)
    signs = []
    rest = number
    while rest > 0:
        rest, worth = divmod(rest - 1, base)
        signs.append(SIGNS[worth])
    return "".join(signs[::-1])
