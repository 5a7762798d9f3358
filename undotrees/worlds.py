"""Worlds: things, and deeds that lead some of them."""

from undotrees.basics import CONTRARIES, DEEDS, is_deed, is_whole_in
from undotrees.errors import Bare, Full, NoDeed, NoNumber, NoThing, Taken
from undotrees.rows import check_row

MOST_THINGS = 61


def check_deed(deed):
    """Refuse what is no deed."""
    if not is_deed(deed):
        raise NoDeed(deed)


def come_to(leads, row, thing):
    """The thing to which a row comes from a thing, None where it can't be done."""
    at = thing
    for sign in row:
        if sign not in leads[at]:
            return None
        at = leads[at][sign]
    return at


class World:
    """Things, numbered from 0, and six deeds, each of which leads some of them."""

    def __init__(self, things=0):
        if not is_whole_in(things, 0, MOST_THINGS):
            raise NoNumber(things)
        # For each thing a dict from a sign to the thing to which it leads. Undoings are
        # kept beside deeds, so that what leads to a thing is found as fast as what leads on.
        self.leads = [{} for thing in range(things)]

    def __len__(self):
        return len(self.leads)

    def __eq__(self, other):
        return isinstance(other, World) and self.leads == other.leads

    def check_thing(self, thing):
        """Refuse what is no thing of this world."""
        if not is_whole_in(thing, 0, len(self.leads) - 1):
            raise NoThing(thing)

    def add(self):
        """Add a thing that nothing leads; its number."""
        many = len(self.leads)
        if many >= MOST_THINGS:
            raise Full(many + 1)
        self.leads.append({})
        return many

    def lay(self, deed, one, other):
        """Lay a deed from a thing to a thing."""
        check_deed(deed)
        self.check_thing(one)
        self.check_thing(other)
        if deed in self.leads[one]:
            raise Taken(deed, one)
        if CONTRARIES[deed] in self.leads[other]:
            raise Taken(deed, other)
        self.leads[one][deed] = other
        self.leads[other][CONTRARIES[deed]] = one

    def lift(self, deed, thing):
        """Lift a deed from a thing; the thing to which it led."""
        check_deed(deed)
        self.check_thing(thing)
        if deed not in self.leads[thing]:
            raise Bare(deed, thing)
        other = self.leads[thing][deed]
        del self.leads[thing][deed]
        del self.leads[other][CONTRARIES[deed]]
        return other

    def laid(self):
        """All tuples (deed, thing, thing) that are laid, sorted."""
        return sorted([
            (sign, one, other)
            for one, signs in enumerate(self.leads)
            for sign, other in signs.items()
            if sign in DEEDS
        ])

    def copy(self):
        """Another world, alike."""
        twin = World()
        twin.leads = [dict(signs) for signs in self.leads]
        return twin

    def led(self, row, thing):
        """The thing to which a row leads a thing, None where it can't be done."""
        check_row(row)
        self.check_thing(thing)
        return come_to(self.leads, row, thing)

    def pairs(self, row):
        """The tuples (thing, thing) of all things from which a row can be done and to which it comes."""
        check_row(row)
        found = []
        for thing in range(len(self.leads)):
            other = come_to(self.leads, row, thing)
            if other is not None:
                found.append((thing, other))
        return found

    def same(self, one, other):
        """Whether two rows do the same in this world."""
        return self.pairs(one) == self.pairs(other)
