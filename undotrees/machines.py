"""Machines: rooms, ways of deeds between them, and a goal."""

from undotrees.basics import CONTRARIES, DEEDS, SIGNS, is_deed, is_whole, is_whole_in
from undotrees.errors import NoFold, NoMachine
from undotrees.rows import check_row
from undotrees.worlds import World

MOST_ROOMS = 40
MOST_WAYS = 200


def is_way(thing, rooms):
    """Whether a thing, of anything, is a way between so many rooms."""
    if not isinstance(thing, tuple) or len(thing) != 3 or not is_deed(thing[1]):
        return False
    return is_whole_in(thing[0], 0, rooms - 1) and is_whole_in(thing[2], 0, rooms - 1)


def check_ways(rooms, ways):
    """Refuse what is no number of rooms, or no list or tuple of ways between them."""
    if not is_whole_in(rooms, 1, MOST_ROOMS):
        raise NoMachine(None)
    if not isinstance(ways, (list, tuple)) or len(ways) > MOST_WAYS:
        raise NoMachine(None)
    for number, way in enumerate(ways):
        if not is_way(way, rooms):
            raise NoMachine(number)


# While a row is sewn in there may be more rooms and ways than a machine may have, so these take any number of them.

def way_by(one, sign, other):
    """The way by which a sign leads from a room to a room."""
    return (one, sign, other) if sign in DEEDS else (other, CONTRARIES[sign], one)


def ways_along(row, one, other, new):
    """The ways by a row's signs, one or more, from a room to a room, with rooms between, numbered from new on."""
    rooms = [one] + list(range(new, new + len(row) - 1)) + [other]
    return [way_by(rooms[at], sign, rooms[at + 1]) for at, sign in enumerate(row)]


def leads_by(rooms, ways):
    """For each room a dict from a sign to a list of the rooms to which it leads, in the order of the ways."""
    leads = [{} for room in range(rooms)]
    for one, deed, other in ways:
        leads[one].setdefault(deed, []).append(other)
        leads[other].setdefault(CONTRARIES[deed], []).append(one)
    return leads


def gone_by(leads, begin, row):
    """The rooms to which one can come by a row from a room, rising."""
    rooms = [begin]
    for sign in row:
        rooms = sorted(set([other for room in rooms for other in leads[room].get(sign, [])]))
    return rooms


def come_through(leads):
    """The rooms to which one can come from room 0: room by room, and from each by the signs in their order."""
    found = [0]
    at = 0
    while at < len(found):
        signs = leads[found[at]]
        for room in [other for sign in SIGNS for other in signs.get(sign, [])]:
            if room not in found:
                found.append(room)
        at += 1
    return found


def put_below(room, lesser, greater):
    """The number of a room where the greater one of two becomes the lesser one."""
    if room == greater:
        return lesser
    return room - 1 if room > greater else room


class Machine:
    """Rooms, numbered from 0, a goal, one of them, and ways: tuples (room, deed, room)."""

    def __init__(self, rooms=1, ways=None, goal=0):
        told = [] if ways is None else ways
        check_ways(rooms, told)
        if not is_whole_in(goal, 0, rooms - 1):
            raise NoMachine(None)
        paths = sorted(set(told))
        leads = leads_by(rooms, paths)
        if len(come_through(leads)) < rooms:
            raise NoMachine(None)
        self.paths = tuple(paths)
        self.leads = leads
        self.aim = goal

    def __len__(self):
        return len(self.leads)

    def __eq__(self, other):
        return isinstance(other, Machine) and self.leads == other.leads and self.aim == other.aim

    def rooms(self):
        """How many rooms there are."""
        return len(self.leads)

    def ways(self):
        """The ways, sorted, each once."""
        return list(self.paths)

    def goal(self):
        """The goal."""
        return self.aim

    def runs(self, row):
        """The rooms to which one can come by a row from the begin, rising."""
        check_row(row)
        return gone_by(self.leads, 0, row)

    def is_straight(self):
        """Whether no two ways of one deed lead from one room, and none to one room."""
        return all([len(rooms) == 1 for signs in self.leads for rooms in signs.values()])

    def folds(self):
        """All tuples (one, other) of rooms that must be one, the lesser room first, sorted."""
        return sorted(set([
            (one, other)
            for signs in self.leads
            for rooms in signs.values()
            for one in rooms
            for other in rooms
            if one < other
        ]))

    def fold(self, one, other):
        """The machine in which two rooms that must be one are."""
        # What is no whole number might fail when it is compared, so that is asked first.
        if not is_whole(one) or not is_whole(other):
            raise NoFold(one, other)
        lesser, greater = sorted([one, other])
        if (lesser, greater) not in self.folds():
            raise NoFold(one, other)
        numbers = [put_below(room, lesser, greater) for room in range(len(self.leads))]
        return renumbered(self, numbers)


def renumbered(machine, numbers):
    """The machine in which each room has the number told for it; those with one number are one."""
    ways = [(numbers[one], deed, numbers[other]) for one, deed, other in machine.paths]
    return Machine(max(numbers) + 1, ways, numbers[machine.aim])


def world_by(ways, things):
    """The world with so many things in which each deed leads as straight ways do."""
    world = World(things)
    for one, deed, other in ways:
        world.lay(deed, one, other)
    return world
