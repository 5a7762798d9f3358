"""Walks: the little trees that rows walk, and their ends."""

from undotrees.basics import DEEDS
from undotrees.errors import NoEnd, NoText, NoTree, TooMany
from undotrees.rows import check_row, gone_on, is_plain, made_plain, row_key, turned
from undotrees.worlds import World

MOST_PLACES = 61


def check_tree(places):
    """Refuse what is no list or tuple of the places of a tree."""
    if not isinstance(places, (list, tuple)) or not 1 <= len(places) <= MOST_PLACES:
        raise NoTree(None)
    ahead = {}
    for number, place in enumerate(places):
        if not is_plain(place) or place in ahead:
            raise NoTree(number)
        ahead[place] = True
    for number, place in enumerate(places):
        if place and place[:-1] not in ahead:
            raise NoTree(number)


def check_many(many):
    """Refuse so many places of a walk."""
    if many > MOST_PLACES:
        raise TooMany(many)


def each_once(rows):
    """A list of rows, each of them once."""
    return list({row: True for row in rows})


def written(place):
    """The word for a place."""
    return place if place else "-"


class Walk:
    """A tree of plain rows, its places, and an end, one of them."""

    def __init__(self, places=None, end=""):
        rows = [""] if places is None else places
        check_tree(rows)
        # The end may be anything, and is compared only where it is a text.
        if not isinstance(end, str) or end not in rows:
            raise NoEnd(end)
        self.tree = tuple(sorted(rows, key=row_key))
        self.last = end

    def __len__(self):
        return len(self.tree)

    def __eq__(self, other):
        return isinstance(other, Walk) and self.tree == other.tree and self.last == other.last

    def __str__(self):
        return " ".join([written(place) for place in self.tree + (":", self.last)])

    def __repr__(self):
        return f"Walk({str(self)})"

    def places(self):
        """The places, in the order of rows."""
        return list(self.tree)

    def end(self):
        """The end."""
        return self.last

    def times(self, other):
        """The walk of this one's row with the other one's behind it."""
        behind = tuple([made_plain(self.last + place) for place in other.tree])
        rows = each_once(self.tree + behind)
        check_many(len(rows))
        return Walk(rows, made_plain(self.last + other.last))

    def contrary(self):
        """The walk of the contraries of this one's rows."""
        # Seen from the end, each place lies behind the way back to the begin.
        back = turned(self.last)
        return Walk([made_plain(back + place) for place in self.tree], back)

    def world(self):
        """The world with a thing for each place, in the order of rows."""
        numbers = {place: number for number, place in enumerate(self.tree)}
        made = World(len(self.tree))
        for place in self.tree:
            for deed in DEEDS:
                other = gone_on(place, deed)
                if other in numbers:
                    made.lay(deed, numbers[place], numbers[other])
        return made


def places_from(place, signs):
    """The places to which one comes by signs, one by one, from a place on, this one too."""
    rows = [place]
    for sign in signs:
        rows.append(gone_on(rows[-1], sign))
    return rows


def walk_of(row):
    """The walk of a row."""
    check_row(row)
    rows = places_from("", row)
    return Walk(each_once(rows), rows[-1])


def read_walk(text):
    """The walk that is written so."""
    parts = text.split(" : ") if isinstance(text, str) else []
    if len(parts) != 2:
        raise NoText(text)
    rows = ["" if word == "-" else word for word in parts[0].split(" ")]
    end = "" if parts[1] == "-" else parts[1]
    try:
        walk = Walk(rows, end)
    except (NoTree, NoEnd):
        raise NoText(text) from None
    # Places may be read in any order, but they are written in one.
    if str(walk) != text:
        raise NoText(text)
    return walk


def lies_within(one, other):
    """Whether all places of the first walk are places of the second one."""
    return all([place in other.tree for place in one.tree])
