"""Rows told by given ones, and papers for that."""

from undotrees.errors import NoGiven
from undotrees.folding import folded, folds_for, lets_folds, tells
from undotrees.machines import Machine, ways_along, world_by
from undotrees.rows import check_row, is_row
from undotrees.unlike import is_thing_of_world

MOST_GIVEN = 6
MOST_GIVEN_SIGNS = 40


def check_given(rows):
    """Refuse what are no given rows."""
    if not isinstance(rows, list) or not 1 <= len(rows) <= MOST_GIVEN:
        raise NoGiven(None)
    for number, row in enumerate(rows):
        if not is_row(row):
            raise NoGiven(number)
    if len("".join(rows)) > MOST_GIVEN_SIGNS:
        raise NoGiven(None)


def machine_of(rows):
    """The machine of given rows: for each a ring of ways from the begin back to it."""
    check_given(rows)
    rooms = 1
    ways = []
    for row in [each for each in rows if each]:
        ways.extend(ways_along(row, 0, 0, rooms))
        rooms += len(row) - 1
    return Machine(rooms, ways)


def is_told(rows, row):
    """Whether a row is told by given ones."""
    return tells(machine_of(rows), row)


def paper_for(rows, row):
    """A paper for given rows and a row: by folds where it is told, else by a world in which it is apart."""
    machine = machine_of(rows)
    folds = folds_for(machine, row)
    if folds is not None:
        return ("told", folds)
    # In the folded machine the rings lead from the begin to itself, and a row that isn't told does not.
    straight = folded(machine)[0]
    return ("apart", world_by(straight.ways(), len(straight)), 0)


def is_apart(rows, row, thing):
    """Whether a thing, of anything, is a tuple of a world and a thing that given rows lead to itself, a row not."""
    if not is_thing_of_world(thing):
        return False
    world, begin = thing
    if not all([world.led(given, begin) == begin for given in rows]):
        return False
    return world.led(row, begin) != begin


def lets_paper(rows, row, thing):
    """Whether a thing, of anything, is a paper for given rows and a row."""
    machine = machine_of(rows)
    check_row(row)
    if not isinstance(thing, tuple) or len(thing) == 0 or not isinstance(thing[0], str):
        return False
    if thing[0] == "told":
        return len(thing) == 2 and lets_folds(machine, row, thing[1])
    return thing[0] == "apart" and is_apart(rows, row, thing[1:])
