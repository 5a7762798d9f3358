"""Machines folded until they are straight, the rows that they tell, and papers of folds."""

from undotrees.basics import CONTRARIES, is_whole_in
from undotrees.machines import come_through, gone_by, leads_by, renumbered
from undotrees.rows import check_row

# Rooms that are one have one name: the least of their numbers. A list has the name of each room, in order.


def made_one(names, one, other):
    """The names where two rooms are one."""
    lesser, greater = sorted([names[one], names[other]])
    return [lesser if name == greater else name for name in names]


def fold_through(names, ways):
    """The names where all ways were gone through once, and the tuples of numbers of ways by which rooms became one."""
    now = names
    folds = []
    ahead = {}
    for number, (one, deed, other) in enumerate(ways):
        for sign, begin, end in ((deed, one, other), (CONTRARIES[deed], other, one)):
            # A name that a room has now was never another room's, so what is kept by it still holds.
            first, last = ahead.setdefault((sign, now[begin]), (number, end))
            if now[last] != now[end]:
                folds.append((first, number))
                now = made_one(now, last, end)
    return now, folds


def fold_all(names, ways):
    """The names where all rooms that must be one are, and the tuples of numbers of ways by which they became so."""
    now, folds = fold_through(names, ways)
    more = folds
    while more:
        now, more = fold_through(now, ways)
        folds = folds + more
    return now, folds


def named_leads(names, ways):
    """Where one can come from each room by each sign, rooms called by their names."""
    return leads_by(len(names), [(names[one], deed, names[other]) for one, deed, other in ways])


def numbers_of(names, ways):
    """For each room its number in the folded machine, where some rooms are told to be one already."""
    now = fold_all(names, ways)[0]
    order = come_through(named_leads(now, ways))
    return [order.index(name) for name in now]


def folded(machine):
    """The folded machine, and for each room its number in that."""
    numbers = numbers_of(list(range(len(machine))), machine.ways())
    return (renumbered(machine, numbers), numbers)


def tells(machine, row):
    """Whether a machine tells a row."""
    check_row(row)
    straight = folded(machine)[0]
    return straight.runs(row) == [straight.goal()]


def is_two_of(thing, many):
    """Whether a thing, of anything, is a tuple of two numbers below the told one."""
    if not isinstance(thing, tuple) or len(thing) != 2:
        return False
    return all([is_whole_in(number, 0, many - 1) for number in thing])


def after_fold(names, one, other):
    """The names where two ways are folded to one; None where neither their first rooms nor their last ones are one."""
    if one[1] != other[1]:
        return None
    if names[one[0]] == names[other[0]]:
        return made_one(names, one[2], other[2])
    if names[one[2]] == names[other[2]]:
        return made_one(names, one[0], other[0])
    return None


def names_by(machine, folds):
    """The names of the rooms by a list of folds; None where it is no fold paper."""
    ways = machine.ways()
    names = list(range(len(machine)))
    for fold in folds:
        if not is_two_of(fold, len(ways)):
            return None
        names = after_fold(names, ways[fold[0]], ways[fold[1]])
        if names is None:
            return None
    return names


def lets_folds(machine, row, thing):
    """Whether a thing, of anything, is a fold paper by which a row is told."""
    check_row(row)
    names = names_by(machine, thing) if isinstance(thing, list) else None
    if names is None:
        return False
    rooms = gone_by(named_leads(names, machine.ways()), 0, row)
    return names[machine.goal()] in rooms


def folds_for(machine, row):
    """A fold paper by which a row is told; None where the machine does not tell it."""
    if not tells(machine, row):
        return None
    return fold_all(list(range(len(machine))), machine.ways())[1]
