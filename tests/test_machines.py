"""Point [18]: machines of rooms, ways and a goal; rooms that must be one, and two of them folded to one."""

import itertools
import unittest

from samples import (ALL_SIGNS, NO_ROWS, ODD_THINGS, Hostile, all_rows, folds_of, put_together, rooms_by, some_machine,
                     some_row, source_of)
from undotrees.errors import NoFold, NoMachine, NoRow
from undotrees.machines import Machine

RING = [(0, "a", 1), (1, "b", 2), (2, "c", 0)]


class Made(unittest.TestCase):

    def check(self, machine, rooms, ways, goal):
        self.assertEqual((machine.rooms(), len(machine), machine.goal()), (rooms, rooms, goal))
        self.assertIs(type(machine.rooms()), int)
        self.assertIs(type(machine.ways()), list)
        self.assertEqual(machine.ways(), sorted(set(ways)))

    def test_without_arguments(self):
        self.check(Machine(), 1, [], 0)
        self.check(Machine(1, None), 1, [], 0)
        self.check(Machine(1, [], 0), 1, [], 0)
        self.check(Machine(1, ()), 1, [], 0)

    def test_ways_in_any_order_and_alike_ones_once(self):
        for ways in (RING, RING[::-1], RING * 3, tuple(RING), tuple(RING[::-1] * 2)):
            self.check(Machine(3, ways, 2), 3, RING, 2)
        self.check(Machine(2, [(1, "f", 0), (0, "b", 1), (0, "a", 1), (1, "a", 1)]), 2,
                   [(0, "a", 1), (0, "b", 1), (1, "a", 1), (1, "f", 0)], 0)

    def test_ways_are_sorted_as_tuples_are(self):
        source = source_of(1)
        for number in range(100):
            rooms, ways, goal = some_machine(source)
            source.shuffle(ways)
            self.check(Machine(rooms, ways + ways[:3], goal), rooms, ways, goal)

    def test_one_room_and_forty(self):
        self.check(Machine(1, [(0, "a", 0)]), 1, [(0, "a", 0)], 0)
        line = [(room, "d", room + 1) for room in range(39)]
        self.check(Machine(40, line, 39), 40, line, 39)

    def test_two_hundred_ways(self):
        ways = [(one, deed, other) for deed in "abcdef" for one in range(6) for other in range(6)][:200]
        self.check(Machine(6, ways), 6, ways, 0)
        self.check(Machine(1, [(0, "a", 0)] * 200), 1, [(0, "a", 0)], 0)

    def test_undoings_lead_to_rooms_too(self):
        self.check(Machine(2, [(1, "a", 0)], 1), 2, [(1, "a", 0)], 1)
        ways = [(2, "a", 0), (2, "b", 1)]
        self.check(Machine(3, ways), 3, ways, 0)

    def test_nothing_done_to_a_list_changes_it(self):
        ways = list(RING)
        machine = Machine(3, ways)
        ways.append((0, "f", 0))
        ways[0] = None
        self.check(machine, 3, RING, 0)
        machine.ways().clear()
        machine.runs("a").append(7)
        machine.folds().append(7)
        self.check(machine, 3, RING, 0)
        self.assertEqual((machine.runs("a"), machine.folds()), ([1], []))
        ways = [(0, "a", 0), (0, "a", 0)]
        Machine(1, ways)
        self.assertEqual(ways, [(0, "a", 0), (0, "a", 0)])

    def test_arguments_by_name(self):
        self.check(Machine(rooms=3, ways=RING, goal=1), 3, RING, 1)
        self.check(Machine(goal=1, ways=RING, rooms=3), 3, RING, 1)
        self.check(Machine(3, goal=2, ways=tuple(RING)), 3, RING, 2)


class Refused(unittest.TestCase):

    def check(self, number, *told):
        with self.assertRaises(NoMachine) as caught:
            Machine(*told)
        self.assertEqual(caught.exception.number, number)
        self.assertIs(type(caught.exception.number), type(number))

    def test_rooms(self):
        for thing in (0, 41, -1, 10 ** 60, True, False, None, 1.5, "1", "", [], [1], (), {}, b"1", object(), Hostile()):
            for ways in ([], RING, None, 7, [None], Hostile()):
                for goal in (0, 9, None):
                    self.check(None, thing, ways, goal)

    def test_ways_are_neither_list_nor_tuple(self):
        for thing in (True, 0, 1, "", "a", {}, {0: 1}, {(0, "a", 0)}, b"", object(), len, Hostile(), iter([])):
            self.check(None, 1, thing)
            self.check(None, 1, thing, 9)

    def test_more_than_two_hundred_ways(self):
        for ways in ([(0, "a", 0)] * 201, [None] * 201, ((0, "a", 0),) * 201, [(0, "a", 0)] * 1000):
            self.check(None, 1, ways)
            self.check(None, 1, ways, 5)

    def test_the_first_that_is_no_way(self):
        good = [(0, "a", 1), (1, "b", 0)]
        bad = [thing for thing in ODD_THINGS]
        bad += [[0, "a", 1], (0, "a"), (0, "a", 1, 0), ("a", 0, 1), (0, 1, "a"), (0, "A", 1), (0, "g", 1), (0, "", 1),
                (0, "ab", 1), (0, None, 1), (0, ["a"], 1), (-1, "a", 0), (0, "a", -1), (2, "a", 0), (0, "a", 2),
                (True, "a", 0), (0, "a", True), (False, "a", 1), (0, "a", False), (None, "a", 0), (0, "a", "1"),
                (0.0, "a", 1), (0, "a", 1.0), (Hostile(), "a", 0), (0, Hostile(), 0), (0, "a", Hostile()),
                (0, b"a", 1), (0, "a", 10 ** 60), (0, 97, 1)]
        for thing in bad:
            for goal in (0, 1, 2, None, Hostile()):
                self.check(0, 2, [thing], goal)
                self.check(2, 2, good + [thing] + good, goal)
                self.check(2, 2, tuple(good + [thing, thing, None]), goal)
        self.check(199, 2, good * 99 + [good[0], None])

    def test_a_room_beyond_is_told_by_the_rooms(self):
        self.check(1, 2, [(0, "a", 1), (1, "a", 2)])
        self.check(2, 3, [(0, "a", 1), (1, "a", 2), (3, "a", 0)])
        self.check(0, 1, [(0, "a", 1)])

    def test_the_goal(self):
        for thing in (3, -1, True, False, None, "0", "", 0.0, [], [0], (), (0,), {}, object(), Hostile(), 10 ** 60):
            self.check(None, 3, RING, thing)
        self.check(None, 1, [], 1)
        self.check(None, 40, [(room, "d", room + 1) for room in range(39)], 40)

    def test_rooms_that_can_not_be_come_to(self):
        self.check(None, 2)
        self.check(None, 2, [(0, "a", 0)])
        self.check(None, 2, [(1, "a", 1)])
        self.check(None, 4, RING)
        self.check(None, 4, [(0, "a", 1), (2, "a", 3), (3, "b", 2)], 1)
        self.check(None, 40, [(room, "a", room + 1) for room in range(38)])
        self.check(None, 3, [(1, "a", 2)])

    def test_all_small_ones_by_what_can_be_come_to(self):
        all_ways = list(itertools.product(range(3), "a", range(3)))
        for many in range(4):
            for ways in itertools.combinations(all_ways, many):
                found = {0}
                for turn in range(3):
                    found |= {other for one, deed, other in ways if one in found}
                    found |= {one for one, deed, other in ways if other in found}
                if len(found) == 3:
                    self.assertEqual(Machine(3, list(ways)).ways(), sorted(ways))
                else:
                    self.check(None, 3, list(ways))


class Alike(unittest.TestCase):

    def test_the_same_rooms_ways_and_goal(self):
        one = Machine(3, RING, 1)
        for other in (Machine(3, RING[::-1], 1), Machine(3, tuple(RING * 2), 1), one):
            self.assertTrue(one == other)
            self.assertTrue(other == one)
            self.assertFalse(one != other)
        self.assertEqual(Machine(), Machine(1, [], 0))

    def test_others(self):
        one = Machine(3, RING, 1)
        for other in (Machine(3, RING, 0), Machine(3, RING, 2), Machine(), Machine(3, RING[:2], 1),
                      Machine(3, RING + [(0, "a", 0)], 1), Machine(3, [(0, "a", 1), (1, "b", 2), (0, "c", 2)], 1),
                      Machine(3, [(0, "b", 1), (1, "b", 2), (2, "c", 0)], 1), Machine(4, RING + [(0, "d", 3)], 1)):
            self.assertFalse(one == other)
            self.assertFalse(other == one)
            self.assertTrue(one != other)

    def test_by_parts(self):
        source = source_of(2)
        machines = [some_machine(source, 2, 2) for number in range(60)]
        for one, other in itertools.product(machines, repeat=2):
            alike = one[0] == other[0] and set(one[1]) == set(other[1]) and one[2] == other[2]
            self.assertIs(Machine(*one) == Machine(*other), alike)

    def test_like_nothing_else(self):
        for thing in ODD_THINGS:
            if not isinstance(thing, Hostile):
                self.assertFalse(Machine() == thing)
                self.assertTrue(Machine() != thing)
        self.assertFalse(Machine() == Hostile())
        self.assertFalse(Machine(2, [(0, "a", 1)]) == 2)


class Runs(unittest.TestCase):

    def test_by_hand(self):
        machine = Machine(4, [(0, "a", 2), (0, "a", 1), (1, "b", 3), (2, "b", 3), (2, "b", 0), (3, "c", 3)])
        for row, rooms in (("", [0]), ("a", [1, 2]), ("ab", [0, 3]), ("aA", [0]), ("A", []), ("B", [2]), ("BB", []),
                           ("abB", [1, 2]), ("abc", [3]), ("abC", [3]), ("b", []), ("bA", []), ("aba", [1, 2]),
                           ("abcB", [1, 2])):
            told = machine.runs(row)
            self.assertIs(type(told), list)
            self.assertEqual(told, rooms, row)

    def test_some_machines(self):
        source = source_of(3)
        for number in range(150):
            rooms, ways, goal = some_machine(source)
            machine = Machine(rooms, ways, goal)
            for row in [some_row(source, 0, 6) for turn in range(10)] + list(all_rows("aAb", 3)):
                self.assertEqual(machine.runs(row), sorted(rooms_by(ways, row)))

    def test_long_rows(self):
        self.assertEqual(Machine(2, [(0, "a", 1), (1, "a", 0)]).runs("a" * 60), [0])
        self.assertEqual(Machine(2, [(0, "a", 1), (1, "a", 0)]).runs("a" * 59), [1])

    def test_no_row(self):
        for thing in NO_ROWS:
            with self.assertRaises(NoRow) as caught:
                Machine(3, RING).runs(thing)
            self.assertIs(caught.exception.text, thing)

    def test_arguments_by_name(self):
        self.assertEqual(Machine(3, RING).runs(row="ab"), [2])


class Straight(unittest.TestCase):

    def test_by_hand(self):
        for rooms, ways in ((1, []), (3, RING), (1, [(0, deed, 0) for deed in "abcdef"]), (2, [(0, "a", 1), (1, "a", 0)]),
                            (2, [(0, "a", 1), (0, "b", 1), (1, "c", 0)]), (3, [(0, "a", 1), (2, "b", 1)])):
            self.assertIs(Machine(rooms, ways).is_straight(), True)
        for rooms, ways in ((2, [(0, "a", 1), (0, "a", 0)]), (2, [(0, "a", 1), (1, "a", 1)]),
                            (3, [(0, "a", 1), (0, "a", 2)]), (3, [(0, "a", 1), (2, "a", 1)])):
            self.assertIs(Machine(rooms, ways).is_straight(), False)

    def test_just_where_there_are_no_folds(self):
        source = source_of(4)
        seen = set()
        for number in range(200):
            rooms, ways, goal = some_machine(source, 4, 1)
            machine = Machine(rooms, ways, goal)
            straight = len({(one, deed) for one, deed, other in ways}) == len(set(ways)) \
                and len({(deed, other) for one, deed, other in ways}) == len(set(ways))
            self.assertIs(machine.is_straight(), straight)
            self.assertIs(machine.folds() == [], straight)
            seen.add(straight)
        self.assertEqual(seen, {True, False})


class Folds(unittest.TestCase):

    def test_by_hand(self):
        for rooms, ways, folds in (
                (1, [], []), (3, RING, []), (2, [(0, "a", 1), (0, "a", 0)], [(0, 1)]),
                (3, [(0, "a", 1), (0, "a", 2)], [(1, 2)]), (3, [(1, "a", 0), (2, "a", 0)], [(1, 2)]),
                (3, [(2, "a", 0), (1, "a", 0), (0, "b", 2), (0, "b", 1)], [(1, 2)]),
                (4, [(0, "a", 3), (0, "a", 1), (0, "a", 2)], [(1, 2), (1, 3), (2, 3)]),
                (3, [(0, "a", 1), (0, "b", 2)], []), (3, [(0, "a", 1), (1, "a", 2)], []),
                (3, [(0, "a", 1), (2, "a", 1), (2, "b", 1), (1, "b", 1)], [(0, 2), (1, 2)])):
            told = Machine(rooms, ways).folds()
            self.assertIs(type(told), list)
            self.assertEqual(told, folds)

    def test_each_pair_of_some_machines(self):
        source = source_of(5)
        for number in range(120):
            rooms, ways, goal = some_machine(source, 6, 2)
            machine = Machine(rooms, ways, goal)
            folds = machine.folds()
            self.assertEqual(folds, folds_of(ways))
            for one, other in folds:
                for pair in ((one, other), (other, one)):
                    told = machine.fold(*pair)
                    self.assertIsInstance(told, Machine)
                    self.assertEqual((told.rooms(), told.ways(), told.goal()), put_together(rooms, ways, goal, one, other))
            self.assertEqual((machine.rooms(), machine.ways(), machine.goal()), (rooms, sorted(set(ways)), goal))

    def test_the_goal_and_the_rooms_behind(self):
        ways = [(0, "a", 1), (0, "a", 3), (3, "b", 2), (2, "c", 4), (4, "d", 3), (3, "e", 3)]
        for goal, number in ((0, 0), (1, 1), (2, 2), (3, 1), (4, 3)):
            told = Machine(5, ways, goal).fold(3, 1)
            self.assertEqual(told.goal(), number)
            self.assertEqual(told.ways(), [(0, "a", 1), (1, "b", 2), (1, "e", 1), (2, "c", 3), (3, "d", 1)])
            self.assertEqual(told.rooms(), 4)

    def test_forty_rooms(self):
        ways = [(0, "a", room) for room in range(1, 40)]
        machine = Machine(40, ways, 39)
        self.assertEqual(machine.folds(), list(itertools.combinations(range(1, 40), 2)))
        self.assertEqual(machine.fold(39, 38), Machine(39, ways[:-1], 38))
        self.assertEqual(machine.fold(1, 2), Machine(39, ways[:-1], 38))

    def test_refused(self):
        ways = [(0, "a", 1), (0, "a", 2), (2, "b", 3)]
        machine = Machine(4, ways)
        pairs = [(one, other) for one in range(-2, 6) for other in range(-2, 6) if {one, other} != {1, 2}]
        pairs += [(thing, 2) for thing in ODD_THINGS if thing is not ODD_THINGS[4]]
        pairs += [(1, thing) for thing in ODD_THINGS]
        pairs += [(thing, thing) for thing in ODD_THINGS]
        pairs += [(True, 2), (2, True), (1.0, 2), ("1", "2"), (1, "2"), (10 ** 60, 1), (None, None)]
        for one, other in pairs:
            with self.assertRaises(NoFold) as caught:
                machine.fold(one, other)
            self.assertIs(caught.exception.one, one)
            self.assertIs(caught.exception.other, other)
        self.assertEqual(machine, Machine(4, ways))

    def test_arguments_by_name(self):
        machine = Machine(3, [(0, "a", 1), (0, "a", 2)])
        self.assertEqual(machine.fold(one=1, other=2), Machine(2, [(0, "a", 1)]))
        self.assertEqual(machine.fold(other=1, one=2), Machine(2, [(0, "a", 1)]))
        with self.assertRaises(NoFold) as caught:
            machine.fold(other=5, one=2)
        self.assertEqual((caught.exception.one, caught.exception.other), (2, 5))

    def test_told_twice_alike(self):
        rooms, ways, goal = some_machine(source_of(6), 6, 1)
        machine = Machine(rooms, ways, goal)
        self.assertEqual(machine.folds(), machine.folds())
        self.assertIsNot(machine.folds(), machine.folds())
        self.assertIsNot(machine.ways(), machine.ways())
        self.assertIsNot(machine.runs(""), machine.runs(""))


class Signs(unittest.TestCase):

    def test_each_sign_leads(self):
        for sign in ALL_SIGNS:
            deed = sign.lower()
            way = (0, deed, 1) if sign == deed else (1, deed, 0)
            self.assertEqual(Machine(2, [way]).runs(sign), [1])
            self.assertEqual(Machine(2, [way]).runs(sign.swapcase()), [])


if __name__ == "__main__":
    unittest.main()
