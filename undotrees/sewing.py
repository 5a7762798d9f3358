"""Sewings: what a row does in each world in which told pairs of rows are the same, seam by seam."""

from undotrees.basics import is_whole_in
from undotrees.errors import Full, NoNumber, NoPairs, NoSeam
from undotrees.folding import made_one, numbers_of
from undotrees.machines import MOST_ROOMS, Machine, ways_along, world_by
from undotrees.rows import check_row, has_signs
from undotrees.walks import walk_of
from undotrees.worlds import come_to

MOST_PAIRS = 4
MOST_PAIR_SIGNS = 12
MOST_SEAMS = 400


def is_told_pair(thing):
    """Whether a thing, of anything, is a told pair: a tuple of two short rows."""
    if not isinstance(thing, tuple) or len(thing) != 2:
        return False
    return all([has_signs(row, MOST_PAIR_SIGNS) for row in thing])


def told_pairs(pairs):
    """A tuple of the told pairs, None for none of them; what are no told pairs is refused."""
    told = [] if pairs is None else pairs
    if not isinstance(told, list) or len(told) > MOST_PAIRS:
        raise NoPairs(None)
    for number, pair in enumerate(told):
        if not is_told_pair(pair):
            raise NoPairs(number)
    return tuple(told)


def ways_of(world):
    """What is laid in a world, as ways of a machine."""
    return [(one, deed, other) for deed, one, other in world.laid()]


def with_row(rooms, ways, row, one, other):
    """The names of rooms, and the ways, where a row is sewn in from a room to a room, not folded yet."""
    if row == "":
        return made_one(list(range(rooms)), one, other), ways
    return list(range(rooms + len(row) - 1)), ways + ways_along(row, one, other, rooms)


class Sewing:
    """A straight machine that is at first a row's walk, and to which told pairs are sewn."""

    def __init__(self, row, pairs=None, most=40):
        check_row(row)
        told = told_pairs(pairs)
        if not is_whole_in(most, 1, MOST_ROOMS):
            raise NoNumber(most)
        walk = walk_of(row)
        if len(walk) > most:
            raise Full(len(walk))
        self.rules = told
        self.limit = most
        self.sewn = []
        # A straight machine is a world by its ways. The order of rows is that in which one comes to a tree's places.
        self.cloth = walk.world()
        self.aim = walk.places().index(walk.end())

    def __len__(self):
        return len(self.sewn)

    def machine(self):
        """The machine as it is now."""
        return Machine(len(self.cloth), ways_of(self.cloth), self.aim)

    def ends(self, room, pair, turned):
        """Where both rows of a pair lead from a room, None where one can't be done; where turned, the second first."""
        one, other = [come_to(self.cloth.leads, row, room) for row in self.rules[pair]]
        return (other, one) if turned else (one, other)

    def is_seam(self, thing):
        """Whether a thing, of anything, is a seam."""
        if not isinstance(thing, tuple) or len(thing) != 3 or not isinstance(thing[2], bool):
            return False
        if not is_whole_in(thing[0], 0, len(self.cloth) - 1) or not is_whole_in(thing[1], 0, len(self.rules) - 1):
            return False
        return self.ends(thing[0], thing[1], thing[2])[0] is not None

    def sew(self, seam):
        """Sew a seam; how many rooms there are then."""
        if not self.is_seam(seam):
            raise NoSeam(seam)
        if len(self.sewn) >= MOST_SEAMS:
            raise Full(len(self.sewn) + 1)
        room, pair, turned = seam
        end = self.ends(room, pair, turned)[0]
        row = self.rules[pair][0 if turned else 1]
        names, ways = with_row(len(self.cloth), ways_of(self.cloth), row, room, end)
        numbers = numbers_of(names, ways)
        rooms = max(numbers) + 1
        if rooms > self.limit:
            raise Full(rooms)
        moved = sorted(set([(numbers[one], deed, numbers[other]) for one, deed, other in ways]))
        self.cloth = world_by(moved, rooms)
        self.aim = numbers[self.aim]
        self.sewn.append(seam)
        return rooms

    def due(self):
        """The first seam by which something is changed; None where the sewing is over."""
        for room in range(len(self.cloth)):
            for pair in range(len(self.rules)):
                for turned in (False, True):
                    end, other = self.ends(room, pair, turned)
                    if end is not None and other != end:
                        return (room, pair, turned)
        return None

    def sew_next(self):
        """Sew what is due; the seam, or None where the sewing is over."""
        seam = self.due()
        if seam is not None:
            self.sew(seam)
        return seam

    def seams(self):
        """The seams that are sewn, in order."""
        return list(self.sewn)

    def tells(self, row):
        """Whether the machine tells a row."""
        return self.cloth.led(row, 0) == self.aim
