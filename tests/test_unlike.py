"""Point [12]: whether two rows are the same, and worlds in which they do unlike; and what [4] says of both."""

import itertools
import unittest

from samples import (NO_ROWS, ODD_THINGS, Hostile, all_rows, back_and_forth, done, places_of, put_in, shape_of, some_row,
                     some_world, source_of, swapped)
from undotrees.errors import NoRow
from undotrees.unlike import same, tells_unlike, unlike
from undotrees.worlds import World

SAME = (("", ""), ("a", "a"), ("a", "aAa"), ("aA", "aAaA"), ("aAbB", "bBaA"), ("abBA", "aAabBA"), ("abBAc", "aAabBAc"),
        ("aAbBcCdD", "dDbBaAcC"), ("bBaAb", "aAb"), ("bBaAb", "aAbBb"), ("AabB", "bBAa"), ("abBcCA", "acCbBA"))

NOT_SAME = (("", "a"), ("", "aA"), ("a", "b"), ("a", "A"), ("a", "aa"), ("aA", "Aa"), ("ab", "ba"), ("abB", "a"),
            ("aAb", "b"), ("abBA", "aA"), ("aAbB", "aA"), ("a", "abB"), ("aAbBa", "bBaAb"))


def world_of(things, *laid):
    world = World(things)
    for deed, one, other in laid:
        world.lay(deed, one, other)
    return world


class Same(unittest.TestCase):

    def test_by_hand(self):
        for one, other in SAME:
            self.assertIs(same(one, other), True, (one, other))
            self.assertIs(same(other, one), True, (one, other))
        for one, other in NOT_SAME:
            self.assertIs(same(one, other), False, (one, other))
            self.assertIs(same(other, one), False, (one, other))

    def test_all_short_rows(self):
        rows = list(all_rows("aAb", 4))
        shapes = {row: shape_of(row) for row in rows}
        for one, other in itertools.product(rows, repeat=2):
            self.assertIs(same(one, other), shapes[one] == shapes[other])

    def test_a_part_and_its_contrary_put_in(self):
        source = source_of(1)
        for number in range(200):
            row = some_row(source, 0, 20)
            other = put_in(source, row)
            self.assertTrue(same(row, other), (row, other))

    def test_rounds_that_change_places(self):
        source = source_of(2)
        for number in range(200):
            begin, one, other, rest = [some_row(source, 0, 8) for part in range(4)]
            rounds = one + swapped(one), other + swapped(other)
            self.assertTrue(same(begin + rounds[0] + rounds[1] + rest, begin + rounds[1] + rounds[0] + rest))

    def test_rows_of_sixty_signs(self):
        self.assertTrue(same("a" * 30 + "A" * 30, "a" * 30 + "A" * 30))
        self.assertTrue(same("aA" * 30, "aA"))
        self.assertFalse(same("a" * 60, "a" * 59))
        self.assertFalse(same("a" * 59 + "A", "a" * 60))

    def test_arguments_by_name(self):
        self.assertTrue(same(one="aAbB", other="bBaA"))
        self.assertFalse(same(other="aAbB", one="b"))


class Unlike(unittest.TestCase):

    def check(self, one, other):
        told = unlike(one, other)
        if shape_of(one) == shape_of(other):
            self.assertIsNone(told)
            return
        self.assertIsInstance(told, tuple)
        world, thing = told
        self.assertIsInstance(world, World)
        self.assertIs(type(thing), int)
        self.assertIn(thing, range(len(world)))
        self.assertLessEqual(len(world), max(len(places_of(one)), len(places_of(other))))
        self.assertNotEqual(done(world.laid(), one, thing), done(world.laid(), other, thing))
        self.assertTrue(tells_unlike(one, other, told))
        self.assertTrue(tells_unlike(other, one, told))
        self.assertFalse(world.same(one, other))

    def test_by_hand(self):
        for one, other in SAME:
            self.assertIsNone(unlike(one, other))
        for one, other in NOT_SAME:
            self.check(one, other)
            self.check(other, one)

    def test_all_short_rows(self):
        for one, other in itertools.product(all_rows("aAbB", 3), repeat=2):
            self.check(one, other)

    def test_some_rows(self):
        source = source_of(3)
        for number in range(150):
            row = some_row(source)
            self.check(row, some_row(source))
            self.check(row, row[:-1])
            self.check(row[1:], row)
            self.check(back_and_forth(source), back_and_forth(source))

    def test_one_tree_with_two_ends(self):
        self.check("aAbB", "aAb")
        self.check("abBA", "ab")
        self.check("abBA", "abB")
        self.check("a" * 30 + "A" * 30, "a" * 30 + "A" * 29)

    def test_what_is_told_is_the_askers_own(self):
        told = unlike("ab", "ba")
        twin = told[0].copy()
        told[0].add()
        told[0].lift(*told[0].laid()[0][:2])
        again = unlike("ab", "ba")
        self.assertEqual(again[0], twin)
        self.assertIsNot(again[0], told[0])

    def test_arguments_by_name(self):
        self.assertIsNone(unlike(one="a", other="aAa"))
        self.assertTrue(tells_unlike("a", "b", unlike(other="b", one="a")))


class TellsUnlike(unittest.TestCase):

    def setUp(self):
        self.world = world_of(3, ("a", 0, 1), ("b", 0, 1), ("a", 1, 2))

    def test_tuples_of_a_world_and_a_thing(self):
        for one, other, thing, unlikely in (
                ("a", "b", 0, False), ("a", "b", 1, True), ("a", "b", 2, False), ("a", "aA", 0, True),
                ("a", "aa", 0, True), ("aa", "ab", 0, True), ("", "aA", 0, False), ("", "aA", 2, True),
                ("b", "aAb", 1, False), ("", "cC", 0, True), ("c", "d", 0, False), ("A", "B", 1, False),
                ("A", "B", 2, True), ("", "", 0, False)):
            self.assertIs(tells_unlike(one, other, (self.world, thing)), unlikely, (one, other, thing))
            self.assertIs(tells_unlike(other, one, (self.world, thing)), unlikely, (one, other, thing))

    def test_worlds_of_any_number_of_things(self):
        great = World(61)
        great.lay("a", 60, 3)
        self.assertTrue(tells_unlike("a", "b", (great, 60)))
        self.assertFalse(tells_unlike("a", "b", (great, 61)))
        self.assertFalse(tells_unlike("a", "b", (great, 0)))
        self.assertFalse(tells_unlike("a", "b", (World(), 0)))

    def test_things_that_are_none(self):
        for thing in (-1, -2, 3, 61, 10 ** 60, True, False, None, "1", "", 1.0, [1], (1,), {}, Hostile()):
            self.assertIs(tells_unlike("a", "b", (self.world, thing)), False)
            self.assertIs(tells_unlike("", "f", (self.world, thing)), False)

    def test_tuples_of_more_or_fewer_things_and_lists(self):
        for thing in ([self.world, 1], (self.world,), (self.world, 1, 1), (self.world, 1, None), (1, self.world), (),
                      ((self.world, 1),), {0: self.world, 1: 1}, self.world, 1, (self.world.laid(), 1), (3, 1),
                      ("world", 1), (None, 1), (World, 1), (Hostile(), 1)):
            self.assertIs(tells_unlike("a", "b", thing), False)

    def test_anything(self):
        for thing in ODD_THINGS:
            self.assertIs(tells_unlike("a", "b", thing), False)
            self.assertIs(tells_unlike("a", "b", (thing, 0)), False)
            self.assertIs(tells_unlike("a", "b", (self.world, thing)), type(thing) is int and thing == 1)

    def test_nothing_is_changed(self):
        twin = self.world.copy()
        told = (self.world, 1)
        self.assertTrue(tells_unlike("a", "b", told))
        self.assertEqual(told, (twin, 1))

    def test_arguments_by_name(self):
        self.assertTrue(tells_unlike(thing=(self.world, 1), one="a", other="b"))


class NoRows(unittest.TestCase):

    def test_each_function_refuses_what_is_no_row(self):
        asked = (same, unlike, lambda one, other: tells_unlike(one, other, None),
                 lambda one, other: tells_unlike(one, other, (World(1), 0)))
        for thing in NO_ROWS:
            for ask in asked:
                for pair in ((thing, "a"), ("a", thing), (thing, "aAg"), (thing, thing)):
                    with self.assertRaises(NoRow) as caught:
                        ask(*pair)
                    self.assertIs(caught.exception.text, thing)
                with self.assertRaises(NoRow) as caught:
                    ask("xyz", thing)
                self.assertEqual(caught.exception.text, "xyz")


class Whole(unittest.TestCase):
    """Of point [4]: rows that are the same do the same in all worlds."""

    def test_the_same_in_all_worlds(self):
        source = source_of(4)
        for number in range(150):
            row = some_row(source, 0, 8)
            other = put_in(source, row)
            world, laid = some_world(source)
            self.assertTrue(world.same(row, other))
            for thing in range(len(world)):
                self.assertFalse(tells_unlike(row, other, (world, thing)))

    def test_no_world_tells_rows_unlike_that_are_the_same(self):
        source = source_of(5)
        worlds = [some_world(source, 4)[0] for number in range(12)]
        rows = list(all_rows("aAb", 3))
        for one, other in itertools.product(rows, repeat=2):
            if any(tells_unlike(one, other, (world, thing)) for world in worlds for thing in range(len(world))):
                self.assertFalse(same(one, other))


if __name__ == "__main__":
    unittest.main()
