"""Point [19]: machines folded, the rows that they tell, and fold papers."""

import itertools
import unittest

from samples import (NO_ROWS, ODD_THINGS, Hostile, all_rows, back_and_forth, folded_by_chance, one_by_looks, places_of,
                     rooms_by, shape_of, some_machine, some_row, source_of, taken_out)
from undotrees.errors import NoRow
from undotrees.folding import folded, folds_for, lets_folds, tells
from undotrees.machines import Machine
from undotrees.rows import is_row
from undotrees.within import does_more


def told_by_looks(rooms, ways, goal, row):
    """Whether one comes from the begin to the goal by a row, if between any two signs one may go a way and back."""
    ones = one_by_looks(rooms, ways)
    now = {room for room in range(rooms) if (0, room) in ones}
    for sign in row:
        now = rooms_by(ways, sign, now)
        now = {room for room in range(rooms) for other in now if (other, room) in ones}
    return goal in now


class Folded(unittest.TestCase):

    def check(self, source, rooms, ways, goal):
        machine = Machine(rooms, ways, goal)
        told = folded(machine)
        self.assertIs(type(told), tuple)
        straight, numbers = told
        self.assertIsInstance(straight, Machine)
        self.assertIs(type(numbers), list)
        self.assertTrue(straight.is_straight())
        for turn in range(2):
            many, moved, aim, expected = folded_by_chance(source, rooms, ways, goal)
            self.assertEqual((straight.rooms(), straight.ways(), straight.goal()), (many, moved, aim))
            self.assertEqual(numbers, expected)
        self.assertEqual(folded(straight), (straight, list(range(len(straight)))))
        self.assertEqual((machine.rooms(), machine.ways(), machine.goal()), (rooms, sorted(set(ways)), goal))

    def test_by_hand(self):
        machine = Machine(4, [(0, "b", 2), (0, "a", 3), (1, "a", 0)], 2)
        self.assertEqual(folded(machine), (Machine(4, [(0, "a", 1), (2, "a", 0), (0, "b", 3)], 3), [0, 2, 3, 1]))
        machine = Machine(5, [(0, "b", 4), (0, "b", 3), (4, "a", 1), (3, "a", 2)], 2)
        self.assertEqual(folded(machine), (Machine(3, [(0, "b", 1), (1, "a", 2)], 2), [0, 2, 2, 1, 1]))
        machine = Machine(3, [(0, "a", 1), (1, "a", 2), (2, "a", 2)], 1)
        self.assertEqual(folded(machine), (Machine(1, [(0, "a", 0)]), [0, 0, 0]))
        self.assertEqual(folded(Machine()), (Machine(), [0]))

    def test_room_by_room_and_not_on_and_on(self):
        # Both ways from the begin come ahead of what lies behind the first of them.
        machine = Machine(4, [(0, "a", 2), (2, "a", 1), (0, "b", 3)])
        self.assertEqual(folded(machine)[1], [0, 3, 1, 2])

    def test_the_signs_are_in_their_order(self):
        ways = [(0, "b", 1), (2, "b", 0), (0, "a", 3), (4, "a", 0)]
        self.assertEqual(folded(Machine(5, ways))[1], [0, 3, 4, 1, 2])

    def test_some_machines(self):
        source = source_of(1)
        for number in range(250):
            self.check(source, *some_machine(source, source.choice((3, 8, 12)), source.randint(1, 6)))

    def test_all_small_machines(self):
        source = source_of(2)
        all_ways = list(itertools.product(range(3), "ab", range(3)))
        many = 0
        for ways in itertools.combinations(all_ways, 3):
            rooms = {0, *[one for one, deed, other in ways], *[other for one, deed, other in ways]}
            try:
                Machine(3, list(ways))
            except ValueError:
                continue
            self.assertEqual(rooms, {0, 1, 2})
            self.check(source, 3, list(ways), many % 3)
            many += 1
        self.assertGreater(many, 300)

    def test_forty_rooms(self):
        source = source_of(3)
        line = [(room, "a", room + 1) for room in range(39)]
        self.assertEqual(folded(Machine(40, line, 39)), (Machine(40, line, 39), list(range(40))))
        star = [(0, "f", room) for room in range(1, 40)]
        self.assertEqual(folded(Machine(40, star, 39)), (Machine(2, [(0, "f", 1)], 1), [0] + [1] * 39))
        self.assertEqual(folded(Machine(40, line + [(7, "a", 7)], 39)), (Machine(1, [(0, "a", 0)]), [0] * 40))
        self.check(source, 40, line + [(30, "a", 9)], 39)
        self.check(source, 40, line + [(39, "a", 0), (20, "a", 5)], 1)
        self.check(source, 40, [(0, "a", 1), (0, "a", 21)] + [(room, "b", room + 1) for room in range(1, 39)
                                                               if room != 20], 20)

    def test_forty_rooms_and_two_hundred_ways(self):
        ways = [(room, deed, (room + 1) % 40) for deed in "abcde" for room in range(40)]
        machine = Machine(40, ways, 39)
        straight, numbers = folded(machine)
        self.assertEqual((straight.rooms(), len(straight.ways()), straight.goal()), (40, 200, 2))
        self.assertEqual(numbers, [0] + [2 * room - 1 for room in range(1, 21)] + [2 * (40 - room) for room in range(21, 40)])

    def test_whatever_pair_is_folded_first(self):
        # By the machine's own folds: each pair at the first step, then at random.
        source = source_of(4)
        for number in range(40):
            first = Machine(*some_machine(source, 7, 2))
            straight = folded(first)[0]
            for pair in first.folds():
                machine = first.fold(*pair)
                self.assertEqual(folded(machine)[0], straight)
                while not machine.is_straight():
                    machine = machine.fold(*source.choice(machine.folds()))
                self.assertEqual(folded(machine)[0], straight)
                self.assertEqual(len(machine), len(straight))

    def test_told_ones_are_new(self):
        machine = Machine(2, [(0, "a", 1)])
        told = folded(machine)
        self.assertEqual(told[0], machine)
        self.assertIsNot(told[0], machine)
        told[1].append(7)
        self.assertEqual(folded(machine), (machine, [0, 1]))

    def test_arguments_by_name(self):
        self.assertEqual(folded(machine=Machine()), (Machine(), [0]))


class Tells(unittest.TestCase):

    def test_by_hand(self):
        machine = Machine(4, [(0, "a", 1), (0, "a", 2), (1, "b", 0), (2, "c", 3)], 3)
        for row in ("ac", "abac", "aAac", "abBAac", "acCc", "BAac", "BcCc", "Bc"):
            self.assertIs(tells(machine, row), True, row)
        for row in ("", "a", "ab", "c", "acb", "ca", "acc", "bac", "AC", "f"):
            self.assertIs(tells(machine, row), False, row)
        self.assertIs(tells(Machine(), ""), True)
        self.assertIs(tells(Machine(), "a"), False)
        self.assertIs(tells(Machine(2, [(0, "a", 1)]), "aA"), True)

    def test_by_looks(self):
        source = source_of(5)
        seen = {True: 0, False: 0}
        for number in range(120):
            rooms, ways, goal = some_machine(source, 7, 2)
            machine = Machine(rooms, ways, goal)
            for row in list(all_rows("aAbB", 2)) + [back_and_forth(source, 8) for turn in range(10)]:
                told = told_by_looks(rooms, ways, goal, row)
                self.assertIs(tells(machine, row), told)
                seen[told] += 1
        self.assertGreater(min(seen.values()), 500)

    def test_each_row_that_does_all_that_one_does_by_which_the_goal_is_come_to(self):
        source = source_of(6)
        rows = list(all_rows("aAb", 4))
        for number in range(25):
            machine = Machine(*some_machine(source, 4, 2))
            coming = [row for row in rows if machine.goal() in machine.runs(row)]
            told = {row for row in rows if tells(machine, row)}
            shapes = {shape_of(row) for row in coming}
            for row in rows:
                places, end = shape_of(row)
                if any(end == last and set(places) <= set(others) for others, last in shapes):
                    self.assertIn(row, told)

    def test_told_ones_do_all_that_such_a_row_does(self):
        # From each told row one goes, wherever two rooms are one, the looks by which they are: a row of the machine.
        source = source_of(7)
        many = 0
        for number in range(60):
            rooms, ways, goal = some_machine(source, 4, 2)
            machine = Machine(rooms, ways, goal)
            looks = one_by_looks(rooms, ways)
            for row in all_rows("aAb", 3):
                if tells(machine, row):
                    longer = with_looks(ways, looks, goal, row)
                    self.assertIn(goal, rooms_by(ways, longer))
                    self.assertEqual(taken_out(longer), taken_out(row))
                    self.assertLessEqual(set(places_of(row)), set(places_of(longer)))
                    if is_row(longer):
                        self.assertTrue(does_more(row, longer))
                        many += longer != row
        self.assertGreater(many, 100)

    def test_what_a_told_row_does_and_more(self):
        source = source_of(8)
        rows = list(all_rows("aAb", 4))
        for number in range(15):
            machine = Machine(*some_machine(source, 5, 2))
            told = [row for row in rows if tells(machine, row)]
            for one, other in itertools.product(rows[:60], told):
                if does_more(one, other):
                    self.assertIn(one, told)

    def test_no_row(self):
        for thing in NO_ROWS:
            for ask in (tells, folds_for):
                with self.assertRaises(NoRow) as caught:
                    ask(Machine(), thing)
                self.assertIs(caught.exception.text, thing)
            for paper in ([], None, [(0, 0)], Hostile()):
                with self.assertRaises(NoRow) as caught:
                    lets_folds(Machine(), thing, paper)
                self.assertIs(caught.exception.text, thing)

    def test_arguments_by_name(self):
        self.assertTrue(tells(machine=Machine(2, [(0, "a", 1)], 1), row="a"))
        self.assertFalse(tells(row="A", machine=Machine(2, [(0, "a", 1)], 1)))


def with_looks(ways, looks, goal, row):
    """A row by which the machine as it is comes to the goal: the row, with looks where rooms are one."""
    begins = {room: looks[0, room] for one, room in looks if one == 0}
    for sign in row:
        on = {}
        for room, text in begins.items():
            for other in rooms_by(ways, sign, (room,)):
                for first, last in looks:
                    if first == other and last not in on:
                        on[last] = text + sign + looks[first, last]
        begins = on
    return begins[goal]


def let(ways, goal, rooms, row, paper):
    """Whether a list of tuples of numbers is a fold paper by which the row is told, by groups of rooms."""
    ways = sorted(set(ways))
    groups = [{room} for room in range(rooms)]
    for one, other in paper:
        (first, deed, last), (begin, sign, end) = ways[one], ways[other]
        if deed != sign:
            return False
        if any(first in group and begin in group for group in groups):
            two = (last, end)
        elif any(last in group and end in group for group in groups):
            two = (first, begin)
        else:
            return False
        both = [group for group in groups if two[0] in group or two[1] in group]
        groups = [group for group in groups if group not in both] + [set().union(*both)]
    now = next(group for group in groups if 0 in group)
    for sign in row:
        now = rooms_by(ways, sign, now)
        now = set().union(*[group for group in groups if group & now])
    return goal in now


class Papers(unittest.TestCase):

    def check_told(self, rooms, ways, goal, row):
        machine = Machine(rooms, ways, goal)
        paper = folds_for(machine, row)
        if not told_by_looks(rooms, ways, goal, row):
            self.assertIsNone(paper)
            return None
        self.assertIs(type(paper), list)
        for fold in paper:
            self.assertIs(type(fold), tuple)
            self.assertEqual([type(number) for number in fold], [int, int])
        self.assertTrue(let(ways, goal, rooms, row, paper))
        self.assertIs(lets_folds(machine, row, paper), True)
        return paper

    def test_by_hand(self):
        # The ways, by their numbers: 0 leads to room 1, 1 to room 2, 2 on from room 1, 3 on from room 2.
        machine = Machine(5, [(0, "a", 1), (0, "a", 2), (1, "b", 3), (2, "b", 4)], 4)
        self.assertIs(lets_folds(machine, "ab", []), True)
        self.assertIs(lets_folds(machine, "abBb", []), True)
        machine = Machine(5, [(0, "a", 1), (0, "a", 2), (1, "b", 3), (2, "c", 4)], 4)
        for row in ("abBc", "acCbBc", "abBcCbBc"):
            self.assertIs(lets_folds(machine, row, [(0, 1)]), True, row)
            self.assertIs(lets_folds(machine, row, [(1, 0)]), True, row)
            self.assertIs(lets_folds(machine, row, []), False, row)
            self.assertEqual(folds_for(machine, row), [(0, 1)])
        for row in ("", "a", "ab", "abB", "c", "acc"):
            self.assertIs(lets_folds(machine, row, [(0, 1)]), False, row)
            self.assertIsNone(folds_for(machine, row))
        self.assertEqual(folds_for(machine, "ac"), [(0, 1)])
        self.assertIs(lets_folds(machine, "ac", []), True)

    def test_rooms_become_one_by_their_last_rooms_too(self):
        machine = Machine(4, [(1, "a", 0), (2, "a", 0), (2, "b", 3)], 3)
        self.assertIs(lets_folds(machine, "AaAb", []), True)
        machine = Machine(4, [(1, "a", 0), (2, "a", 0), (2, "b", 3), (1, "c", 1)], 3)
        self.assertIs(lets_folds(machine, "Acb", []), False)
        for paper in ([(0, 2)], [(2, 0)], [(0, 0), (0, 2)], [(0, 2), (0, 2), (2, 0)], [(3, 3), (1, 1), (2, 0)]):
            self.assertIs(lets_folds(machine, "Acb", paper), True)
        for paper in ([(0, 0)], [(1, 1)], [(3, 3)], [(0, 3)], [(0, 2), (0, 3)], [(0, 2), (1, 3)], [(0, 1)]):
            self.assertIs(lets_folds(machine, "Acb", paper), False)

    def test_rooms_that_are_not_one_yet(self):
        # Ways 2 and 3 lead from rooms that are one only by ways 0 and 1.
        machine = Machine(6, [(0, "a", 1), (0, "a", 2), (1, "b", 3), (2, "b", 4), (4, "c", 5), (3, "d", 3)], 5)
        self.assertEqual(machine.ways()[2:4], [(1, "b", 3), (2, "b", 4)])
        self.assertIs(lets_folds(machine, "abdc", [(0, 1), (2, 3)]), True)
        self.assertIs(lets_folds(machine, "abdc", [(0, 1), (3, 2)]), True)
        for paper in ([(2, 3), (0, 1)], [(2, 3)], [(0, 1)], [], [(3, 2), (1, 0)], [(0, 1), (2, 4)]):
            self.assertIs(lets_folds(machine, "abdc", paper), False)

    def test_one_by_way_of_a_third(self):
        ways = [(0, "a", 1), (0, "a", 2), (3, "b", 1), (3, "b", 2), (1, "c", 4), (2, "d", 5)]
        machine = Machine(6, ways, 5)
        self.assertIs(lets_folds(machine, "acCd", [(0, 1)]), True)
        self.assertIs(lets_folds(machine, "acCd", [(4, 5)]), True)
        ways = [(0, "a", 1), (0, "a", 2), (0, "a", 3), (1, "b", 4), (2, "b", 4), (3, "c", 5), (1, "d", 1)]
        machine = Machine(6, ways, 5)
        for paper in ([(0, 1), (1, 2)], [(0, 2)], [(1, 2), (3, 5)], [(1, 2), (0, 1)], [(5, 3), (2, 1)]):
            self.assertIs(lets_folds(machine, "adc", paper), True, paper)
        for paper in ([(0, 1)], [(1, 2)], [(3, 5)], [(3, 5), (0, 1)]):
            self.assertIs(lets_folds(machine, "adc", paper), False, paper)

    def test_told_papers(self):
        source = source_of(9)
        many = 0
        for number in range(120):
            rooms, ways, goal = some_machine(source, source.choice((4, 8, 12)), 2)
            for row in ("", "a", "aA", "ab", some_row(source, 0, 6), back_and_forth(source, 10)):
                many += self.check_told(rooms, ways, goal, row) is not None
        self.assertGreater(many, 150)

    def test_forty_rooms(self):
        line = [(room, "a", room + 1) for room in range(39)]
        for ways, goal, row in ((line, 39, "a" * 39), (line + [(0, "a", 0)], 39, ""), (line + [(30, "a", 9)], 39, "a" * 17),
                                ([(0, "f", room) for room in range(1, 40)], 39, "fFf")):
            self.assertIsNotNone(self.check_told(40, ways, goal, row))

    def test_bent_papers_are_let_by_just_where_they_should_be(self):
        source = source_of(10)
        seen = {True: 0, False: 0}
        for number in range(150):
            rooms, ways, goal = some_machine(source, 8, 2)
            machine = Machine(rooms, ways, goal)
            many = len(machine.ways())
            rows = [row for row in list(all_rows("aAbB", 2)) + [back_and_forth(source, 8)] if tells(machine, row)]
            for row in rows:
                paper = folds_for(machine, row)
                for bent in bent_papers(source, paper, many):
                    should = let(ways, goal, rooms, row, bent)
                    self.assertIs(lets_folds(machine, row, bent), should)
                    seen[should] += 1
        self.assertGreater(min(seen.values()), 500)

    def test_never_a_paper_for_a_row_that_is_not_told(self):
        source = source_of(11)
        many = 0
        for number in range(100):
            rooms, ways, goal = some_machine(source, 6, 2)
            machine = Machine(rooms, ways, goal)
            numbers = range(len(machine.ways()))
            papers = [[], folds_for(Machine(rooms, ways, 0), "")]
            papers += [[(source.choice(numbers), source.choice(numbers)) for turn in range(3)] for paper in numbers]
            for row in all_rows("aAbB", 2):
                if not told_by_looks(rooms, ways, goal, row):
                    for paper in papers:
                        self.assertIs(lets_folds(machine, row, paper), False)
                        many += 1
        self.assertGreater(many, 2000)

    def test_other_numbers_and_things(self):
        machine = Machine(5, [(0, "a", 1), (0, "a", 2), (1, "b", 3), (2, "c", 4)], 4)
        self.assertIs(lets_folds(machine, "abBc", [(0, 1)]), True)
        bad = [(0, 4), (4, 0), (-1, 0), (0, -1), (-4, 1), (0, -3), (0, True), (False, 1), (0, 10 ** 60), (0, 1.0), (0, "1"),
               (0, None), (0, 1, 2), (0,), (), [0, 1], {0: 1}, "01", b"\x00\x01", Hostile(), (Hostile(), 1), (0, Hostile())]
        for thing in bad + [thing for thing in ODD_THINGS]:
            for paper in ([thing], [(0, 1), thing], [thing, (0, 1)], [(0, 1), thing, (1, 0)]):
                self.assertIs(lets_folds(machine, "abBc", paper), False, paper)
        for thing in ODD_THINGS + (((0, 1),), {(0, 1): True}, {(0, 1)}, "(0, 1)", iter([(0, 1)]), (0, 1)):
            self.assertIs(lets_folds(machine, "abBc", thing), False)

    def test_numbers_below_nought_count_nothing_from_behind(self):
        machine = Machine(3, [(0, "a", 1), (0, "a", 2)], 2)
        self.assertIs(lets_folds(machine, "a", [(0, 1)]), True)
        for fold in ((0, -1), (-1, 0), (-2, 1), (1, -2), (-1, -1), (-2, -1)):
            self.assertIs(lets_folds(machine, "a", [fold]), False)

    def test_only_a_list_will_do(self):
        machine = Machine(2, [(0, "a", 1)], 1)
        for thing in ODD_THINGS:
            empty = isinstance(thing, list) and thing == []
            self.assertIs(lets_folds(machine, "a", thing), empty)
        self.assertIs(lets_folds(Machine(), "", [(0, 0)]), False)

    def test_however_long(self):
        machine = Machine(5, [(0, "a", 1), (0, "a", 2), (1, "b", 3), (2, "c", 4)], 4)
        self.assertIs(lets_folds(machine, "abBc", [(0, 1), (3, 3)] * 10000), True)
        self.assertIs(lets_folds(machine, "abBc", [(0, 1)] * 10000 + [(2, 3)]), False)

    def test_nothing_is_changed_and_lists_are_the_askers_own(self):
        machine = Machine(5, [(0, "a", 1), (0, "a", 2), (1, "b", 3), (2, "c", 4)], 4)
        paper = folds_for(machine, "abBc")
        twin = list(paper)
        lets_folds(machine, "abBc", paper)
        self.assertEqual(paper, twin)
        paper.append(None)
        self.assertEqual(folds_for(machine, "abBc"), twin)
        self.assertEqual(machine, Machine(5, [(0, "a", 1), (0, "a", 2), (1, "b", 3), (2, "c", 4)], 4))

    def test_arguments_by_name(self):
        machine = Machine(3, [(0, "a", 1), (0, "a", 2)], 2)
        paper = folds_for(machine=machine, row="a")
        self.assertTrue(lets_folds(machine=machine, row="a", thing=paper))
        self.assertTrue(lets_folds(thing=paper, row="a", machine=machine))
        self.assertIsNone(folds_for(row="b", machine=machine))


def bent_papers(source, paper, many):
    """Papers like one: with a tuple left out, put in, exchanged, twice, turned or changed."""
    found = [paper[::-1], paper + paper, [fold[::-1] for fold in paper]]
    if many:
        at = source.randint(0, len(paper))
        fold = (source.randrange(many), source.randrange(many))
        found += [paper[:at] + [fold] + paper[at:], paper[:at] + [(fold[0], fold[0])] + paper[at:]]
        if paper:
            at = source.randrange(len(paper))
            found += [paper[:at] + paper[at + 1:], paper[:at] + [fold] + paper[at + 1:], paper[at:] + paper[:at],
                      paper[:at] + [(paper[at][0], fold[1])] + paper[at + 1:], paper[:at + 1] + paper[at:]]
    return found


if __name__ == "__main__":
    unittest.main()
