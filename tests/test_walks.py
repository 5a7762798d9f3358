"""Points [9] and [11]: walks of rows, walks made of places and an end, alike ones, and their worlds."""

import itertools
import unittest

from samples import (ALL_SIGNS, NO_ROWS, ODD_THINGS, Hostile, all_rows, back_and_forth, done, order, places_of, some_row,
                     some_tree, source_of, taken_out)
from undotrees.errors import NoEnd, NoRow, NoTree
from undotrees.walks import Walk, walk_of
from undotrees.worlds import World


class Interface(unittest.TestCase):

    def test_each_method_is_defined_in_the_class_itself(self):
        for name in ("places", "end", "times", "contrary", "world", "__len__", "__eq__", "__str__", "__repr__"):
            self.assertIn(name, vars(Walk))

    def test_arguments_by_name(self):
        self.assertEqual(Walk(places=["", "a"], end="a"), walk_of("a"))
        self.assertEqual(Walk(end="a", places=("a", "")), walk_of(row="a"))
        self.assertEqual(Walk(end=""), walk_of(""))
        self.assertEqual(Walk(["", "a"]), walk_of("aA"))


class WalkOf(unittest.TestCase):

    def check(self, row):
        walk = walk_of(row)
        self.assertIsInstance(walk, Walk)
        self.assertEqual(walk.places(), places_of(row))
        self.assertEqual(walk.end(), taken_out(row))
        self.assertEqual(len(walk), len(places_of(row)))

    def test_by_hand(self):
        for row, places, end in (
                ("", [""], ""), ("a", ["", "a"], "a"), ("aA", ["", "a"], ""), ("Aa", ["", "A"], ""),
                ("aAb", ["", "a", "b"], "b"), ("BaAA", ["", "B", "Ba", "BA"], "BA"),
                ("aabBAAcC", ["", "a", "c", "aa", "aab"], ""), ("fFAabBeE", ["", "A", "b", "e", "f"], "")):
            walk = walk_of(row)
            self.assertEqual(walk.places(), places, row)
            self.assertEqual(walk.end(), end, row)

    def test_all_short_rows(self):
        for row in all_rows("aAbB", 5):
            self.check(row)

    def test_some_rows(self):
        source = source_of(1)
        for number in range(200):
            self.check(some_row(source))
            self.check(back_and_forth(source))

    def test_rows_of_none_and_of_sixty_signs(self):
        self.assertEqual(len(walk_of("")), 1)
        for row in ("a" * 60, "abcdef" * 10, "aA" * 30, "F" * 30 + "f" * 30, "abBA" * 15):
            self.check(row)
        self.assertEqual(len(walk_of("aB" * 30)), 61)
        self.assertEqual(len(walk_of("aA" * 30)), 2)

    def test_what_is_no_row(self):
        for thing in NO_ROWS:
            with self.assertRaises(NoRow):
                walk_of(thing)

    def test_a_told_list_is_the_askers_own(self):
        walk = walk_of("ab")
        told = walk.places()
        told.append("x")
        told[0] = "y"
        self.assertEqual(walk.places(), ["", "a", "ab"])
        self.assertEqual(walk, walk_of("ab"))
        self.assertEqual(len(walk), 3)

    def test_each_told_walk_is_a_new_one(self):
        self.assertIsNot(walk_of("ab"), walk_of("ab"))


class Made(unittest.TestCase):

    def refused(self, places, place, end=""):
        with self.assertRaises(NoTree) as caught:
            Walk(places, end)
        self.assertEqual(caught.exception.place, place)
        self.assertIs(type(caught.exception.place), type(place))

    def test_of_nothing(self):
        for walk in (Walk(), Walk(None), Walk(None, ""), Walk([""]), Walk(("",), "")):
            self.assertEqual(walk.places(), [""])
            self.assertEqual(walk.end(), "")
            self.assertEqual(len(walk), 1)

    def test_of_a_list_or_tuple_in_any_order(self):
        places = ["", "a", "A", "ab", "aB"]
        for mixed in itertools.permutations(places):
            for walk in (Walk(list(mixed), "ab"), Walk(mixed, "ab")):
                self.assertEqual(walk.places(), places)
                self.assertEqual(walk.end(), "ab")
        self.assertEqual([Walk(places, end).end() for end in places], places)

    def test_of_some_trees(self):
        source = source_of(2)
        for many in range(1, 62):
            places = some_tree(source, many)
            end = source.choice(places)
            walk = Walk(places, end)
            self.assertEqual(walk.places(), sorted(places, key=order))
            self.assertEqual((walk.end(), len(walk)), (end, many))

    def test_a_list_that_is_changed_changes_no_walk(self):
        places = ["", "a", "ab"]
        walk = Walk(places, "a")
        places[0] = "b"
        places.append("abc")
        self.assertEqual(walk.places(), ["", "a", "ab"])
        self.assertEqual(len(walk), 3)
        places = ["ab", "", "a"]
        Walk(places)
        self.assertEqual(places, ["ab", "", "a"])

    def test_what_is_neither_list_nor_tuple_or_has_none_or_too_many(self):
        for thing in (False, True, 0, 1, "", "a", "aA", {}, {"": 1}, {""}, b"", object(), Hostile(), Walk, iter([""]),
                      [], (), walk_of("a")):
            self.refused(thing, None)
            self.refused(thing, None, end=Hostile())
        line = ["a" * many for many in range(61)]
        self.assertEqual(len(Walk(line, "a" * 60)), 61)
        self.refused(line + ["b"], None)
        self.refused(tuple(line + ["b"]), None)
        self.refused([""] * 62, None)
        self.refused([5] * 62, None)
        self.refused([""] * 61, 1)

    def test_the_first_thing_that_is_no_plain_row_or_stands_ahead(self):
        for thing in ("aA", "bBa", "a" * 61, "g", "-", " ", "a\n", None, True, 0, ["a"], ("a",), b"a", {}, Hostile()):
            self.refused([thing], 0)
            self.refused(["", thing], 1)
            self.refused(("", "a", thing, thing), 2)
            self.refused(["ab", "", thing], 2)
        self.refused(["", ""], 1)
        self.refused(["", "a", "b", "a"], 3)
        self.refused(["", "a", "b", "a", "aA"], 3)
        self.refused(["", "a", "b", "aA", "a"], 3)
        self.refused(["ccc", "", "a", "a"], 3)

    def test_the_first_thing_whose_row_without_the_last_sign_is_missing(self):
        self.refused(["a"], 0)
        self.refused(["a", "ab"], 0)
        self.refused(["ab", "a"], 1)
        self.refused(["", "ab"], 1)
        self.refused(["", "b", "ab", "ba"], 2)
        self.refused(["abc", "", "ab", "b", "cc"], 2)
        self.refused(["", "a", "abc", "ABC"], 2)
        self.refused(["A", "b", "", "aa"], 3)
        self.refused(["a" * 60, ""], 0)

    def test_an_end_that_is_no_place(self):
        for end in ("b", "aA", "aB", "aba", "-", " ", None, True, 0, 1, ["a"], ("a",), {}, b"a", object(), Hostile(),
                    walk_of("a")):
            with self.assertRaises(NoEnd) as caught:
                Walk(["", "a", "ab"], end)
            self.assertIs(caught.exception.place, end)
        for places in (None, [""]):
            with self.assertRaises(NoEnd) as caught:
                Walk(places, "a")
            self.assertEqual(caught.exception.place, "a")

    def test_places_go_ahead_of_the_end(self):
        self.refused(["", "ab"], 1, end="x")
        self.refused([], None, end="x")
        self.refused(["", "aA"], 1, end=None)


class Alike(unittest.TestCase):

    def test_the_same_places_and_the_same_end(self):
        for one, other in (("", ""), ("a", "aAa"), ("aAbB", "bBaA"), ("abB", "abBAabB"), ("aAbBc", "bBaAc")):
            self.assertTrue(walk_of(one) == walk_of(other))
            self.assertFalse(walk_of(one) != walk_of(other))

    def test_other_walks(self):
        for one, other in (("", "a"), ("a", "A"), ("a", "aA"), ("aA", "aAbB"), ("ab", "ba"), ("aAb", "abB"), ("a", "b")):
            self.assertFalse(walk_of(one) == walk_of(other))
            self.assertTrue(walk_of(one) != walk_of(other))

    def test_all_short_rows(self):
        rows = list(all_rows("aAb", 3))
        walks = {row: walk_of(row) for row in rows}
        for one, other in itertools.product(rows, repeat=2):
            alike = places_of(one) == places_of(other) and taken_out(one) == taken_out(other)
            self.assertIs(walks[one] == walks[other], alike)

    def test_like_nothing_else(self):
        for thing in ODD_THINGS + ("- : -", ["", "a"], (["", "a"], "a")):
            if not isinstance(thing, Hostile):
                self.assertFalse(walk_of("a") == thing)
                self.assertTrue(walk_of("a") != thing)
        self.assertIs(walk_of("a").__eq__(Hostile()), False)


class TheWorld(unittest.TestCase):

    def test_by_hand(self):
        self.assertEqual(walk_of("").world(), World(1))
        self.assertEqual(walk_of("a").world().laid(), [("a", 0, 1)])
        self.assertEqual(walk_of("A").world().laid(), [("a", 1, 0)])
        # In order: the row without signs, a, B, ab, aB.
        self.assertEqual(Walk(["", "B", "a", "ab", "aB"]).world().laid(),
                         [("a", 0, 1), ("b", 1, 3), ("b", 2, 0), ("b", 4, 1)])

    def test_what_is_laid(self):
        source = source_of(3)
        for many in range(1, 62):
            places = some_tree(source, many)
            world = Walk(places, source.choice(places)).world()
            rising = sorted(places, key=order)
            laid = sorted((deed, one, rising.index(taken_out(place + deed)))
                          for one, place in enumerate(rising) for deed in "abcdef"
                          if taken_out(place + deed) in places)
            self.assertIsInstance(world, World)
            self.assertEqual(len(world), many)
            self.assertEqual(world.laid(), laid)
            self.assertEqual(len(laid), many - 1)

    def test_a_row_can_be_done_just_where_its_places_are_the_walks(self):
        source = source_of(4)
        for number in range(20):
            walk = Walk(some_tree(source, source.randint(1, 8), "aAbB"))
            world, places = walk.world(), walk.places()
            for row in all_rows("aAbB", 4):
                within = set(places_of(row)) <= set(places)
                self.assertEqual(world.led(row, 0), places.index(taken_out(row)) if within else None)

    def test_the_told_world_is_the_askers_own(self):
        walk = walk_of("ab")
        world = walk.world()
        world.lift("a", 0)
        world.add()
        self.assertEqual(walk.world().laid(), [("a", 0, 1), ("b", 1, 2)])
        self.assertEqual(walk, walk_of("ab"))
        self.assertIsNot(walk.world(), walk.world())


class RowsDo(unittest.TestCase):

    def test_a_row_does_what_its_walk_tells(self):
        # Whatever the world, a row comes from a thing to that to which its end does, where all its places can be done.
        source = source_of(5)
        for number in range(300):
            laid = [("a", 0, 1), ("b", 1, 0), ("b", 0, 2), ("a", 2, 2)]
            row, thing = some_row(source, 0, 8), source.randint(0, 2)
            walk = walk_of(row)
            ends = [done(laid, place, thing) for place in walk.places()]
            self.assertEqual(done(laid, row, thing), None if None in ends else done(laid, walk.end(), thing))

    def test_all_signs_make_places(self):
        self.assertEqual(walk_of("".join(sign + sign.swapcase() for sign in ALL_SIGNS)).places(), ["", *ALL_SIGNS])


if __name__ == "__main__":
    unittest.main()
