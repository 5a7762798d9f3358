"""What tests share: rows, worlds and odd things, and walks told anew from the document's words."""

import functools
import itertools
import random

from undotrees.worlds import World

ALL_SIGNS = "aAbBcCdDeEfF"


class Hostile:
    """All that may be asked of it fails."""

    def __eq__(self, other):
        raise RuntimeError("asked")

    __ne__ = __lt__ = __le__ = __gt__ = __ge__ = __eq__
    __contains__ = __getitem__ = __eq__

    def __len__(self):
        raise RuntimeError("asked")

    __iter__ = __bool__ = __int__ = __index__ = __str__ = __repr__ = __len__
    __hash__ = None


ODD_THINGS = (None, True, False, 0, 1, -1, 61, 10 ** 60, 1.5, "", "a", "x", "less", [], [0], ["a"], (), (0,), ("a",),
              ("less", 0, 1, 2), {}, {"a": 1}, {"a"}, b"", b"a", object(), len, str, World, World(2), Hostile(),
              [Hostile()], (Hostile(),), (Hostile(), Hostile()), (Hostile(), 0, 1))

NO_ROWS = ("a" * 61, "aB" * 31, "F" * 6000, "g", "G", "abg", "a1", "-", " ", "a b", " a", "a ", "\t", "a\n", "ab\ncd",
           None, True, False, 0, 1, 60, 1.5, [], ["a"], (), ("a",), {}, {"a": 1}, {"a"}, b"", b"ab", object(), len,
           Hostile())

# What are no told pairs, each with the number that its refusal has.
NO_PAIRS = (((), None), ((("a", "b"),), None), ("", None), ("ab", None), (0, None), (True, None), (False, None),
            ({}, None), ({("a", "b"): 1}, None), (b"", None), (object(), None), (Hostile(), None),
            ([("a", "b")] * 5, None), ([None] * 5, None), ([Hostile()] * 9, None), ([None], 0), ([()], 0), ([("a",)], 0),
            ([("a", "b", "c")], 0), ([["a", "b"]], 0), (["ab"], 0), ([("a", None)], 0), ([(None, "a")], 0),
            ([("a", "x")], 0), ([("a" * 13, "")], 0), ([("", "a" * 13)], 0), ([("a", "-")], 0), ([("a", ["b"])], 0),
            ([(Hostile(), "a")], 0), ([("a", Hostile())], 0), ([Hostile()], 0),
            ([("a", "b"), ("a", "b"), ("a", 1), None], 2), ([("", "")] * 3 + [("a" * 12, "a" * 13)], 3))


def all_rows(signs, most):
    for many in range(most + 1):
        for row in itertools.product(signs, repeat=many):
            yield "".join(row)


def some_row(source, least=0, most=60):
    """Some row, over few deeds often, so that much is taken back."""
    signs = ALL_SIGNS[:2 * source.randint(1, 6)]
    return "".join(source.choice(signs) for place in range(source.randint(least, most)))


def back_and_forth(source, most=60):
    """Some row that often goes back the way that it came."""
    row, way = "", ""
    for place in range(most):
        if way and source.random() < 0.5:
            sign = swapped(way[-1])
        else:
            sign = source.choice(ALL_SIGNS[:4])
        row += sign
        way = taken_out(way + sign)
    return row


def swapped(row):
    """The contrary of a row."""
    other = ""
    for sign in row:
        other = (sign.upper() if sign.islower() else sign.lower()) + other
    return other


def taken_out(row):
    """The row made plain: two neighbours go, again and again."""
    at = 0
    while at < len(row) - 1:
        if row[at] == swapped(row[at + 1]):
            row = row[:at] + row[at + 2:]
            at = max(at - 1, 0)
        else:
            at += 1
    return row


def order(row):
    """Python sorts by this as rows are ordered."""
    return len(row), [ALL_SIGNS.index(sign) for sign in row]


def places_of(row):
    """The places of a row: its beginnings made plain, in the order of rows."""
    return sorted({taken_out(row[:many]) for many in range(len(row) + 1)}, key=order)


def shape_of(row):
    """The places and the end of a row, as what may be a key."""
    return tuple(places_of(row)), taken_out(row)


def expected(row, step):
    """What comes of a step, from the document's words: all parts are cut out and compared."""
    word, at, many = step[:3]
    part = row[at:at + many]
    if many < 1 or len(part) < many:
        return None
    if word == "more":
        return row[:at] + part + swapped(part) + part + row[at + many:]
    if word == "less":
        three = part + swapped(part) + part
        return row[:at] + part + row[at + len(three):] if row[at:].startswith(three) else None
    first = part + swapped(part)
    other = row[at + len(first):at + len(first) + step[3]]
    second = other + swapped(other)
    if len(other) < step[3] or step[3] < 1 or not row[at:].startswith(first + second):
        return None
    return row[:at] + second + first + row[at + len(first + second):]


def put_in(source, row):
    """The row with a part, its contrary and it again in place of a part."""
    at = source.randint(0, len(row))
    behind = source.randint(at, len(row))
    return row[:behind] + swapped(row[at:behind]) + row[at:]


def some_walking(source, places, end):
    """Some row that walks a tree, whose places are told in any order, to its end; none has fewer signs."""
    row, at, gone = "", "", {""}
    while True:
        on = [place for place in places if place not in gone and place[:-1] == at and not end.startswith(place)]
        if on:
            at = source.choice(on)
            gone.add(at)
            row += at[-1]
        elif not end.startswith(at):
            row += swapped(at[-1])
            at = at[:-1]
        elif at != end:
            row += end[len(at)]
            at = end[:len(at) + 1]
        else:
            return row


def some_tree(source, places, signs=ALL_SIGNS):
    """The places of some tree, in some order."""
    tree = [""]
    while len(tree) < places:
        place = source.choice(tree)
        sign = source.choice(signs)
        if place[-1:] != swapped(sign) and place + sign not in tree:
            tree.append(place + sign)
    source.shuffle(tree)
    return tree


def some_world(source, most=6):
    """Some world, and a list of all that is laid in it, of its own."""
    things = source.randint(1, most)
    world, laid = World(things), []
    for deed in "abcdef"[:source.randint(1, 6)]:
        many = source.randint(0, things)
        ends = source.sample(range(things), many)
        for one, other in zip(source.sample(range(things), many), ends):
            world.lay(deed, one, other)
            laid.append((deed, one, other))
    return world, laid


def done(laid, row, thing):
    """Where a row of any length leads, by looking through all that is laid for each sign."""
    on = {(deed, one): other for deed, one, other in laid}
    on.update({(deed.upper(), other): one for deed, one, other in laid})
    for sign in row:
        if (sign, thing) not in on:
            return None
        thing = on[sign, thing]
    return thing


def some_machine(source, most=8, deeds=3):
    """The rooms, ways and goal of some machine."""
    rooms = source.randint(1, most)
    ways = []
    for room in range(1, rooms):
        two = [room, source.randrange(room)]
        source.shuffle(two)
        ways.append((two[0], source.choice("abcdef"[:deeds]), two[1]))
    for number in range(source.randint(0, rooms)):
        ways.append((source.randrange(rooms), source.choice("abcdef"[:deeds]), source.randrange(rooms)))
    source.shuffle(ways)
    return rooms, ways, source.randrange(rooms)


def rooms_by(ways, row, rooms=(0,)):
    """The rooms to which one comes by a row, by looking through all ways for each sign."""
    now = set(rooms)
    for sign in row:
        if sign.islower():
            now = {other for one, deed, other in ways if deed == sign and one in now}
        else:
            now = {one for one, deed, other in ways if deed == sign.lower() and other in now}
    return now


def folds_of(ways):
    """The rooms that must be one, by looking at each two ways."""
    found = set()
    for (one, deed, other), (first, sign, last) in itertools.product(ways, repeat=2):
        if deed == sign and one == first and other < last:
            found.add((other, last))
        if deed == sign and other == last and one < first:
            found.add((one, first))
    return sorted(found)


def put_together(rooms, ways, goal, one, other):
    """The rooms, the sorted ways and the goal where two rooms are one."""
    order = [room for room in range(rooms) if room != max(one, other)]
    number = {room: order.index(min(one, other) if room == max(one, other) else room) for room in range(rooms)}
    moved = {(number[first], deed, number[last]) for first, deed, last in ways}
    return rooms - 1, sorted(moved), number[goal]


def numbered_anew(rooms, ways, goal):
    """A straight machine's ways and goal, its rooms numbered as one comes to them, and these numbers."""
    order = [0]
    for room in order:
        for sign in ALL_SIGNS:
            for other in rooms_by(ways, sign, (room,)):
                if other not in order:
                    order.append(other)
    number = {room: order.index(room) for room in range(rooms)}
    return sorted({(number[one], deed, number[other]) for one, deed, other in ways}), number[goal], number


def folded_by_chance(source, rooms, ways, goal):
    """What comes of folding some two rooms that must be one, again and again, and the number of each room then."""
    numbers = list(range(rooms))
    while folds_of(ways):
        one, other = source.choice(folds_of(ways))
        for room, number in enumerate(numbers):
            if number == other:
                numbers[room] = one
            elif number > other:
                numbers[room] = number - 1
        rooms, ways, goal = put_together(rooms, ways, goal, one, other)
    ways, goal, number = numbered_anew(rooms, ways, goal)
    return rooms, ways, goal, [number[room] for room in numbers]


def one_by_looks(rooms, ways):
    """For each two rooms that are one where a machine is folded a row that leads from the one to the other and looks.

    Such are rows that come, made plain, to nothing: a way and back round such a row, and two of them in a row.
    """
    return looks_through(rooms, tuple(ways))


@functools.lru_cache(maxsize=8)
def looks_through(rooms, ways):
    looks = {(room, room): "" for room in range(rooms)}
    more = True
    while more:
        more = {}
        for sign in ALL_SIGNS:
            for (one, other), row in looks.items():
                for first in rooms_by(ways, swapped(sign), (one,)):
                    for last in rooms_by(ways, swapped(sign), (other,)):
                        more.setdefault((first, last), sign + row + swapped(sign))
        for (one, middle), (begin, other) in itertools.product(looks, repeat=2):
            if middle == begin:
                more.setdefault((one, other), looks[one, middle] + looks[middle, other])
        more = {two: row for two, row in more.items() if two not in looks}
        looks.update(more)
    return looks


def some_pairs(source, most=4):
    """Some told pairs, most of them short."""
    signs = ALL_SIGNS[:2 * source.randint(1, 3)]
    long = source.choice((1, 2, 2, 3, 4, 12))
    return [tuple("".join(source.choice(signs) for sign in range(source.randint(0, long))) for row in range(2))
            for pair in range(source.randint(0, most))]


class Plainly:
    """A sewing told anew: ways by all signs of a row put in, and any two rooms folded as long as there are such."""

    def __init__(self, source, row, pairs):
        self.source, self.pairs = source, pairs
        places = places_of(row)
        ways = set()
        for place in places[1:]:
            two = places.index(place[:-1]), places.index(place)
            ways.add((two[0], place[-1], two[1]) if place[-1].islower() else (two[1], place[-1].lower(), two[0]))
        self.fold(len(places), sorted(ways), places.index(taken_out(row)))

    def fold(self, rooms, ways, goal):
        self.rooms, self.ways, self.goal, numbers = folded_by_chance(self.source, rooms, ways, goal)

    def lead(self, row, room):
        rooms = rooms_by(self.ways, row, (room,))
        return min(rooms) if rooms else None

    def tells(self, row):
        return rooms_by(self.ways, row) == {self.goal}

    def due(self):
        for room, (number, pair), turned in itertools.product(range(self.rooms), enumerate(self.pairs), (False, True)):
            one, other = pair[::-1] if turned else pair
            if self.lead(one, room) not in (None, self.lead(other, room)):
                return room, number, turned
        return None

    def sew(self, room, pair, turned):
        one, other = self.pairs[pair][::-1] if turned else self.pairs[pair]
        end = self.lead(one, room)
        rooms, ways, goal = self.rooms, list(self.ways), self.goal
        if other == "":
            if end != room:
                rooms, ways, goal = put_together(rooms, ways, goal, room, end)
        else:
            through = [room, *range(rooms, rooms + len(other) - 1), end]
            rooms += len(other) - 1
            for sign, first, last in zip(other, through, through[1:]):
                ways.append((first, sign, last) if sign.islower() else (last, sign.lower(), first))
        self.fold(rooms, ways, goal)


def source_of(seed):
    return random.Random(seed)
