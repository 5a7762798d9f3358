"""Logs: rows done one behind the other, with signs that may be taken back, and marks."""

from undotrees.basics import is_name, is_whole_in
from undotrees.errors import Full, NoBack, NoMark
from undotrees.rows import check_row, turned
from undotrees.shortest import shortest_at
from undotrees.steps import MOST_LONG
from undotrees.walks import MOST_PLACES, Walk, each_once, places_from
from undotrees.worlds import come_to


class Log:
    """A long row, some of whose signs are open, and marks."""

    def __init__(self):
        self.signs = ""
        self.opened = ""
        # For each mark that stands how many signs it stands for: the first ones that are open.
        self.depths = {}
        # The places to which the row came are sorted only where they are asked for; the last of them is here.
        self.gone = {"": True}
        self.here = ""

    def __len__(self):
        return len(self.signs)

    def __eq__(self, other):
        return isinstance(other, Log) and self.gone == other.gone and self.here == other.here

    def put_behind(self, signs):
        """Put signs behind the row; refuse what would be too long, or go to too many places."""
        many = len(self.signs) + len(signs)
        if many > MOST_LONG:
            raise Full(many)
        way = places_from(self.here, signs)
        places = each_once(list(self.gone) + way)
        if len(places) > MOST_PLACES:
            raise Full(len(places))
        self.signs += signs
        self.gone = {place: True for place in places}
        self.here = way[-1]

    def take(self, many):
        """Take back so many of the open signs, the last ones, and lose the marks that stand for one of them."""
        left = len(self.opened) - many
        self.put_behind(turned(self.opened[left:]))
        self.opened = self.opened[:left]
        self.depths = {name: depth for name, depth in self.depths.items() if depth <= left}

    def do(self, row):
        """Do a row; how many signs the log has then."""
        check_row(row)
        self.put_behind(row)
        self.opened += row
        return len(self.signs)

    def back(self, many=1):
        """Take back so many signs; how many signs the log has then."""
        if not is_whole_in(many, 1, len(self.opened)):
            raise NoBack(many)
        self.take(many)
        return len(self.signs)

    def mark(self, name):
        """Set a mark: it stands for all signs that are open now."""
        if not is_name(name):
            raise NoMark(name)
        self.depths[name] = len(self.opened)

    def back_to(self, name):
        """Take back all signs that were opened since a mark was set; how many."""
        if not is_name(name) or name not in self.depths:
            raise NoMark(name)
        many = len(self.opened) - self.depths[name]
        self.take(many)
        return many

    def row(self):
        """The row."""
        return self.signs

    def standing(self):
        """The open signs."""
        return self.opened

    def marks(self):
        """The names of the marks that stand, sorted."""
        return sorted(self.depths)

    def walk(self):
        """The walk of the row."""
        return Walk(list(self.gone), self.here)

    def short(self):
        """The first of the shortest rows of the walk."""
        return shortest_at(self.walk())

    def led(self, world, thing):
        """The thing to which the log leads a thing of a world, None where it can't be done."""
        world.check_thing(thing)
        return come_to(world.leads, self.signs, thing)

    def copy(self):
        """Another log, with the same row, open signs and marks."""
        twin = Log()
        twin.signs = self.signs
        twin.opened = self.opened
        twin.depths = dict(self.depths)
        twin.gone = dict(self.gone)
        twin.here = self.here
        return twin
