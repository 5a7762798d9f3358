"""Point [20]: given rows, their machine of rings, rows told by them, and papers for that."""

import itertools
import unittest

from samples import (ALL_SIGNS, NO_ROWS, ODD_THINGS, Hostile, all_rows, back_and_forth, done, one_by_looks, places_of,
                     rooms_by, some_row, some_world, source_of, swapped, taken_out)
from undotrees.errors import NoGiven, NoRow
from undotrees.folding import folds_for, lets_folds, tells
from undotrees.given import is_told, lets_paper, machine_of, paper_for
from undotrees.machines import Machine
from undotrees.within import does_more
from undotrees.worlds import World


def rings(rows):
    """How many rooms there are, and the ways round for each row, one ring behind the other."""
    rooms, ways = 1, []
    for row in rows:
        at = 0
        for number, sign in enumerate(row):
            on = 0 if number == len(row) - 1 else rooms
            rooms += on != 0
            ways.append((at, sign, on) if sign.islower() else (on, sign.lower(), at))
            at = on
    return rooms, ways


def expected(rows, row):
    """Whether a row is told: whether one comes back to the begin, if one may look between any two signs."""
    rooms, ways = rings(rows)
    ones = one_by_looks(rooms, ways)
    now = {room for room in range(rooms) if (0, room) in ones}
    for sign in row:
        now = {room for other in rooms_by(ways, sign, now) for room in range(rooms) if (other, room) in ones}
    return 0 in now


def some_given(source, most=4):
    return [some_row(source, 0, most) for row in range(source.randint(1, 4))]


class MachineOf(unittest.TestCase):

    def test_by_hand(self):
        for rows, rooms, ways in (
                ([""], 1, []), (["", "", ""], 1, []), (["a"], 1, [(0, "a", 0)]), (["A"], 1, [(0, "a", 0)]),
                (["a", "A", "b"], 1, [(0, "a", 0), (0, "b", 0)]), (["ab"], 2, [(0, "a", 1), (1, "b", 0)]),
                (["aB"], 2, [(0, "a", 1), (0, "b", 1)]), (["AB"], 2, [(1, "a", 0), (0, "b", 1)]),
                (["abc", "", "Dd"], 4, [(0, "a", 1), (1, "b", 2), (2, "c", 0), (3, "d", 0)]),
                (["ab", "e", "cd"], 3, [(0, "a", 1), (1, "b", 0), (0, "e", 0), (0, "c", 2), (2, "d", 0)]),
                (["aaa", "aaa"], 5, [(0, "a", 1), (1, "a", 2), (2, "a", 0), (0, "a", 3), (3, "a", 4), (4, "a", 0)])):
            self.assertEqual(machine_of(rows), Machine(rooms, ways, 0))

    def test_some_rows(self):
        source = source_of(1)
        for number in range(200):
            rows = [some_row(source, 0, 6) for row in range(source.randint(1, 6))]
            told = machine_of(rows)
            rooms, ways = rings(rows)
            self.assertIsInstance(told, Machine)
            self.assertEqual((told.rooms(), told.ways(), told.goal()), (rooms, sorted(set(ways)), 0))

    def test_forty_signs(self):
        self.assertEqual(machine_of(["a" * 40]).rooms(), 40)
        self.assertEqual(machine_of(["aB" * 20]).rooms(), 40)
        self.assertEqual(machine_of(["a" * 20, "", "B" * 20]).rooms(), 39)
        self.assertEqual(machine_of(["a" * 7] * 5 + ["b" * 5]).rooms(), 35)
        self.assertEqual(machine_of([""] * 5 + ["f" * 40]).rooms(), 40)

    def test_arguments_by_name(self):
        self.assertEqual(machine_of(rows=["ab"]), Machine(2, [(0, "a", 1), (1, "b", 0)]))

    def test_nothing_is_changed(self):
        rows = ["ab", "", "c"]
        machine = machine_of(rows)
        rows[0] = "f"
        self.assertEqual(machine, machine_of(["ab", "", "c"]))
        self.assertIsNot(machine_of(rows), machine_of(rows))
        self.assertEqual(rows, ["f", "", "c"])


class Refused(unittest.TestCase):

    def check(self, number, rows):
        asks = [lambda: machine_of(rows)]
        for row in ("", "a", "xyz", None, Hostile()):
            asks += [lambda row=row: is_told(rows, row), lambda row=row: paper_for(rows, row)]
            asks += [lambda row=row, thing=thing: lets_paper(rows, row, thing) for thing in (None, ("told", []), Hostile())]
        for ask in asks:
            with self.assertRaises(NoGiven) as caught:
                ask()
            self.assertEqual(caught.exception.number, number)
            self.assertIs(type(caught.exception.number), type(number))

    def test_no_list(self):
        for thing in (None, True, 0, 1, "", "a", "ab", (), ("a",), ("a", "b"), {}, {"a": 1}, {"a"}, b"a", object(),
                      iter(["a"]), Hostile()):
            self.check(None, thing)

    def test_none_and_too_many(self):
        self.check(None, [])
        self.check(None, ["a"] * 7)
        self.check(None, [""] * 7)
        self.check(None, [None] * 7)
        self.check(None, [Hostile()] * 100)

    def test_the_first_that_is_no_row(self):
        for thing in NO_ROWS:
            self.check(0, [thing])
            self.check(2, ["a", "", thing, "b", thing])
            self.check(5, ["a" * 30] * 5 + [thing])

    def test_too_many_signs(self):
        for rows in (["a" * 41], ["a" * 40, "b"], ["a" * 60], ["aB" * 20, "", "f"], ["abcdefa"] * 6, ["a" * 60] * 6):
            self.check(None, rows)

    def test_no_row_behind_that(self):
        for thing in NO_ROWS:
            for rows in (["a"], [""], ["a" * 40], ["ab"] * 6):
                asks = [lambda: is_told(rows, thing), lambda: paper_for(rows, thing)]
                asks += [lambda paper=paper: lets_paper(rows, thing, paper)
                         for paper in (None, ("told", []), ("apart", World(1), 0), Hostile())]
                for ask in asks:
                    with self.assertRaises(NoRow) as caught:
                        ask()
                    self.assertIs(caught.exception.text, thing)


class Told(unittest.TestCase):

    def test_by_hand(self):
        rows = ["ab", "cC"]
        for row in ("", "ab", "BA", "aA", "Bb", "cC", "abcC", "abBA", "BAab", "ababBAcC", "abaA"):
            self.assertIs(is_told(rows, row), True, row)
        for row in ("a", "b", "ba", "c", "Cc", "d", "dD", "A", "bB", "AB", "aa", "abc", "aBb"):
            self.assertIs(is_told(rows, row), False, row)
        self.assertIs(is_told([""], ""), True)
        self.assertIs(is_told([""], "aA"), False)
        self.assertIs(is_told(["aa", "aaa"], "a"), True)
        self.assertIs(is_told(["aaaa", "aaaaaa"], "a"), False)
        self.assertIs(is_told(["aaaa", "aaaaaa"], "aa"), True)
        self.assertIs(is_told(["a"], "a" * 60), True)

    def test_as_the_machine_tells(self):
        source = source_of(2)
        seen = {True: 0, False: 0}
        for number in range(100):
            rows = some_given(source)
            for row in [some_row(source, 0, 4), back_and_forth(source, 8), "", rows[0], swapped(rows[-1])]:
                told = expected(rows, row)
                self.assertIs(is_told(rows, row), told)
                self.assertIs(tells(machine_of(rows), row), told)
                seen[told] += 1
        self.assertGreater(min(seen.values()), 100)

    def test_the_given_rows_their_contraries_and_two_told_ones(self):
        source = source_of(3)
        for number in range(80):
            rows = [some_row(source, 0, 6) for row in range(source.randint(1, 5))]
            told = rows + [swapped(row) for row in rows] + [""]
            for turn in range(10):
                told.append(source.choice(told) + source.choice(told))
            for row in [row for row in told if len(row) <= 60]:
                self.assertIs(is_told(rows, row), True)
                self.assertIs(is_told(rows, swapped(row)), True)

    def test_each_that_does_all_that_a_told_one_does(self):
        source = source_of(4)
        rows = list(all_rows("aAb", 4))
        many = 0
        for number in range(12):
            given = [some_row(source, 1, 4) for row in range(2)]
            told = [row for row in rows if is_told(given, row)]
            for row in rows:
                if row not in told:
                    self.assertFalse(any(does_more(row, other) for other in told))
                    many += 1
            for row in given:
                for other in rows:
                    if taken_out(other) == taken_out(row) and set(places_of(other)) <= set(places_of(row)):
                        self.assertIn(other, told)
        self.assertGreater(many, 100)

    def test_the_given_rows_in_another_order(self):
        source = source_of(5)
        for number in range(40):
            rows = some_given(source, 3)
            row = back_and_forth(source, 6)
            told = is_told(rows, row)
            for other in itertools.permutations(rows):
                self.assertIs(is_told(list(other), row), told)
            self.assertIs(is_told(rows + [rows[0]], row), told)
            self.assertIs(is_told(rows + [""], row), told)
            self.assertIs(is_told([swapped(each) for each in rows], row), told)

    def test_in_each_world_told_ones_lead_a_thing_back_to_itself(self):
        source = source_of(6)
        many = 0
        worlds = [some_world(source, 4)[1] for number in range(60)]
        for number in range(60):
            rows = [some_row(source, 0, 3) for row in range(2)]
            told = [row for row in all_rows("aAbB", 3) if is_told(rows, row)]
            for laid in worlds:
                for thing in range(4):
                    if all(done(laid, row, thing) == thing for row in rows):
                        for row in told:
                            self.assertEqual(done(laid, row, thing), thing)
                            many += row != ""
        self.assertGreater(many, 1000)

    def test_nothing_is_changed(self):
        rows = ["ab", "cC"]
        for ask in (is_told, paper_for):
            ask(rows, "abcC")
            ask(rows, "f")
        self.assertEqual(rows, ["ab", "cC"])

    def test_arguments_by_name(self):
        self.assertTrue(is_told(rows=["ab"], row="BA"))
        self.assertFalse(is_told(row="ba", rows=["ab"]))


class Papers(unittest.TestCase):

    def check(self, rows, row):
        paper = paper_for(rows, row)
        self.assertIs(type(paper), tuple)
        self.assertIs(lets_paper(rows, row, paper), True)
        if expected(rows, row):
            word, folds = paper
            self.assertEqual(word, "told")
            self.assertIs(type(folds), list)
            self.assertIs(lets_folds(machine_of(rows), row, folds), True)
        else:
            word, world, thing = paper
            self.assertEqual(word, "apart")
            self.assertIsInstance(world, World)
            self.assertIs(type(thing), int)
            self.assertIn(thing, range(len(world)))
            for given in rows:
                self.assertEqual(done(world.laid(), given, thing), thing)
            self.assertNotEqual(done(world.laid(), row, thing), thing)
        return paper

    def test_some_rows(self):
        source = source_of(7)
        words = {"told": 0, "apart": 0}
        for number in range(150):
            rows = some_given(source, source.choice((2, 5, 9)))
            for row in (rows[0], swapped(rows[-1]) + rows[0], some_row(source, 0, 4), some_row(source), ""):
                if len(row) <= 60:
                    words[self.check(rows, row)[0]] += 1
        self.assertGreater(min(words.values()), 100)

    def test_forty_signs(self):
        for rows in (["a" * 40], ["abcdefABCD" * 4], ["ab" * 10, "bcDa" * 5], ["a" * 21, "a" * 19], ["a" * 30, "a" * 10]):
            for row in ("", "a", "aaaaaaaaaa", "f", rows[0], swapped(rows[-1]), rows[0][:20], "a" * 60):
                self.check(rows, row)

    def test_all_short_rows(self):
        for rows in (["ab"], ["aA"], ["aba"], ["aab", "b"], ["abAB"], ["", "bb"]):
            for row in all_rows("aAbB", 3):
                self.check(rows, row)

    def test_bent_papers_by_folds(self):
        # The ways of the machine are (0, a, 1), (0, a, 2), (1, b, 0) and (2, c, 0): one fold is due.
        rows, row = ["ab", "ac"], "Bc"
        self.assertEqual(machine_of(rows).ways(), [(0, "a", 1), (0, "a", 2), (1, "b", 0), (2, "c", 0)])
        for folds in ([(0, 1)], [(1, 0)], [(0, 1), (0, 1)], [(0, 0), (0, 1), (3, 3)]):
            self.assertIs(lets_paper(rows, row, ("told", folds)), True)
        for folds in ([], [(0, 2)], [(0, 1), (2, 3)], [(2, 3), (0, 1)], [(0, 0)], [(0, 4)], [(0, True)], [[0, 1]], ((0, 1),),
                      None, Hostile(), [Hostile()], {(0, 1): 1}, World(1)):
            self.assertIs(lets_paper(rows, row, ("told", folds)), False)
        good = ("told", [(0, 1)])
        for thing in (list(good), good + (0,), good + ([],), ("told",), ([(0, 1)], "told"), [(0, 1)], {"told": [(0, 1)]},
                      ("Told", [(0, 1)]), ("told ", [(0, 1)]), ("", [(0, 1)]), ("apart", [(0, 1)]), ("same", [(0, 1)]),
                      (None, [(0, 1)]), (b"told", [(0, 1)]), (Hostile(), [(0, 1)]), ("told", World(1), 0), ("told", [(0, 1)], 0)):
            self.assertIs(lets_paper(rows, row, thing), False, thing)
        self.assertIs(lets_paper(rows, "bc", good), False)

    def test_bent_papers_by_worlds(self):
        rows, row = ["ab", "ac"], "bc"
        world = World(4)
        for deed, one, other in (("a", 0, 1), ("b", 1, 0), ("c", 1, 0), ("a", 2, 2), ("b", 2, 2), ("c", 2, 2)):
            world.lay(deed, one, other)
        self.assertIs(lets_paper(rows, row, ("apart", world, 0)), True)
        for thing in (1, 2, 3, 4, -1, True, False, None, "0", 0.0, (0,), Hostile(), 10 ** 60):
            self.assertIs(lets_paper(rows, row, ("apart", world, thing)), False)
        for thing in (("apart", world), ("apart", world, 0, 0), ["apart", world, 0], ("apart", 0, world), ("told", world, 0),
                      ("Apart", world, 0), (world, 0), ("apart", world.laid(), 0), ("apart", World(), 0), ("apart", None, 0),
                      ("apart", Hostile(), 0), ("apart", World(1), 0), ("apart", (world, 0)), (Hostile(), world, 0),
                      ("apart", "apart", 0), {"apart": 0}, "apart"):
            self.assertIs(lets_paper(rows, row, thing), False)
        # From thing 0 "b" can't be done, "a" comes elsewhere, "abac" comes back.
        self.assertIs(lets_paper(rows, "b", ("apart", world, 0)), True)
        self.assertIs(lets_paper(rows, "a", ("apart", world, 0)), True)
        self.assertIs(lets_paper(rows, "abac", ("apart", world, 0)), False)
        self.assertIs(lets_paper(rows, "", ("apart", world, 0)), False)
        world.lift("c", 1)
        self.assertIs(lets_paper(rows, row, ("apart", world, 0)), False)

    def test_a_world_in_which_a_given_row_comes_elsewhere(self):
        world = World(2)
        world.lay("a", 0, 0)
        world.lay("b", 0, 1)
        self.assertIs(lets_paper(["a"], "b", ("apart", world, 0)), True)
        self.assertIs(lets_paper(["a", "bB"], "b", ("apart", world, 0)), True)
        self.assertIs(lets_paper(["a", "b"], "c", ("apart", world, 0)), False)
        self.assertIs(lets_paper(["b", "a"], "c", ("apart", world, 0)), False)
        self.assertIs(lets_paper(["a", "bb"], "c", ("apart", world, 0)), False)

    def test_a_world_of_many_things(self):
        world = World(61)
        world.lay("a", 60, 60)
        world.lay("b", 60, 59)
        self.assertIs(lets_paper(["a"], "b", ("apart", world, 60)), True)
        self.assertIs(lets_paper(["a"], "b", ("apart", world, 59)), False)
        self.assertIs(lets_paper(["a"], "b", ("apart", world, 61)), False)

    def test_anything(self):
        for thing in ODD_THINGS:
            self.assertIs(lets_paper(["a"], "a", thing), False)
            self.assertIs(lets_paper(["a"], "b", thing), False)
            for word in ("told", "apart", "same"):
                self.assertIs(lets_paper(["a"], "b", (word, thing)), False)
                self.assertIs(lets_paper(["a"], "b", (word, thing, thing)), False)
                self.assertIs(lets_paper(["a"], "b", (word, World(2), thing)), False)
            self.assertIs(lets_paper(["a"], "a", ("told", thing)), isinstance(thing, list) and thing == [])

    def test_never_papers_of_both_kinds(self):
        source = source_of(8)
        worlds = [some_world(source, 4) for number in range(40)]
        many = 0
        for number in range(30):
            rows = [some_row(source, 0, 3) for row in range(2)]
            numbers = range(len(machine_of(rows).ways()))
            papers = [("told", []), ("told", folds_for(machine_of(rows), ""))]
            papers += [("told", [(source.choice(numbers), source.choice(numbers)) for fold in range(2)]) for paper in numbers]
            for row in all_rows(ALL_SIGNS[:4], 2):
                let = [lets_paper(rows, row, paper) for paper in papers]
                apart = [lets_paper(rows, row, ("apart", world, thing)) for world, laid in worlds for thing in range(4)]
                self.assertFalse(any(let) and any(apart))
                told = expected(rows, row)
                self.assertFalse(any(let) and not told)
                self.assertFalse(any(apart) and told)
                many += any(apart)
        self.assertGreater(many, 100)

    def test_nothing_is_changed_and_told_ones_are_new(self):
        rows = ["ab", "ac"]
        told = paper_for(rows, "Bc")
        told[1].append(None)
        self.assertEqual(paper_for(rows, "Bc"), ("told", [(0, 1)]))
        apart = paper_for(rows, "bc")
        laid = apart[1].laid()
        self.assertIs(lets_paper(rows, "bc", apart), True)
        self.assertEqual(apart[1].laid(), laid)
        apart[1].lift(laid[0][0], laid[0][1])
        self.assertEqual(paper_for(rows, "bc")[1].laid(), laid)
        self.assertEqual(rows, ["ab", "ac"])

    def test_arguments_by_name(self):
        paper = paper_for(rows=["ab"], row="BA")
        self.assertEqual(paper[0], "told")
        self.assertTrue(lets_paper(rows=["ab"], row="BA", thing=paper))
        self.assertTrue(lets_paper(thing=paper, row="BA", rows=["ab"]))
        self.assertEqual(paper_for(row="ba", rows=["ab"])[0], "apart")


if __name__ == "__main__":
    unittest.main()
