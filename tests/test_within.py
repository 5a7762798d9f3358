"""Points [16] and [17]: within, what only looks, what does more, what both do and what is common."""

import itertools
import unittest

from samples import (NO_ROWS, all_rows, back_and_forth, done, places_of, some_row, some_tree, some_world, source_of,
                     swapped, taken_out)
from undotrees.errors import NoEnd, NoRow, TooMany
from undotrees.unlike import same
from undotrees.walks import Walk, walk_of
from undotrees.within import both, common, does_more, is_within, not_within, only_looks
from undotrees.worlds import World

WITHIN = (("", ""), ("", "a"), ("", "abC"), ("a", "a"), ("a", "aA"), ("aA", "a"), ("a", "ab"), ("b", "aAbB"), ("abB", "ab"),
          ("bBaA", "aAb"), ("aAb", "bcCBaA"))

NOT_WITHIN = (("a", ""), ("aA", ""), ("a", "A"), ("a", "b"), ("ab", "a"), ("ab", "ba"), ("aAb", "a"), ("aa", "a"),
              ("abBA", "aAbB"), ("acC", "abB"))


class Within(unittest.TestCase):

    def check(self, one, other):
        within = set(places_of(one)) <= set(places_of(other))
        self.assertIs(is_within(one, other), within, (one, other))
        told = not_within(one, other)
        if within:
            self.assertIsNone(told)
            return
        self.assertIsInstance(told, tuple)
        world, thing = told
        self.assertIsInstance(world, World)
        self.assertIs(type(thing), int)
        self.assertIn(thing, range(len(world)))
        self.assertIsNotNone(done(world.laid(), other, thing))
        self.assertIsNone(done(world.laid(), one, thing))
        self.assertIsNotNone(world.led(other, thing))
        self.assertIsNone(world.led(one, thing))

    def test_by_hand(self):
        for one, other in WITHIN:
            self.assertIs(is_within(one, other), True, (one, other))
            self.check(one, other)
        for one, other in NOT_WITHIN:
            self.assertIs(is_within(one, other), False, (one, other))
            self.check(one, other)

    def test_all_short_rows(self):
        for one, other in itertools.product(all_rows("aAbB", 3), repeat=2):
            self.check(one, other)

    def test_some_rows(self):
        source = source_of(1)
        for number in range(100):
            row = some_row(source)
            at = source.randint(0, len(row))
            self.check(row[:at], row)
            self.check(row, row[:at])
            self.check(row, some_row(source))
            self.check(back_and_forth(source), back_and_forth(source))

    def test_whatever_the_world(self):
        # Within: it can be done wherever the other one can. Not within: the told world tells so.
        source = source_of(2)
        worlds = [some_world(source)[1] for number in range(20)]
        for one, other in itertools.product(all_rows("aAb", 3), repeat=2):
            if is_within(one, other):
                for laid in worlds:
                    for thing in range(6):
                        if done(laid, other, thing) is not None:
                            self.assertIsNotNone(done(laid, one, thing))

    def test_the_told_world_is_the_askers_own(self):
        told = not_within("ab", "a")
        twin = told[0].copy()
        told[0].lift("a", 0)
        told[0].add()
        self.assertEqual(not_within("ab", "a")[0], twin)

    def test_arguments_by_name(self):
        self.assertTrue(is_within(one="a", other="ab"))
        self.assertFalse(is_within(other="a", one="ab"))
        self.assertIsNone(not_within(one="a", other="ab"))
        self.assertIsNotNone(not_within(other="a", one="ab"))


class Looks(unittest.TestCase):

    def test_by_hand(self):
        for row in ("", "aA", "Aa", "abBA", "aAbB", "abBAcC", "a" * 30 + "A" * 30):
            self.assertIs(only_looks(row), True)
        for row in ("a", "A", "ab", "aAb", "abA", "aba", "abAB", "a" * 31 + "A" * 29):
            self.assertIs(only_looks(row), False)

    def test_all_short_rows(self):
        for row in all_rows("aAbB", 5):
            self.assertIs(only_looks(row), taken_out(row) == "")

    def test_a_row_with_its_contrary_behind_it(self):
        source = source_of(3)
        for number in range(100):
            row = some_row(source, 0, 30)
            self.assertTrue(only_looks(row + swapped(row)))
            self.assertTrue(only_looks(swapped(row) + row))

    def test_it_comes_back_to_the_thing(self):
        source = source_of(4)
        for number in range(100):
            row = some_row(source, 0, 4)
            laid = some_world(source)[1]
            for thing in range(6):
                self.assertIn(done(laid, row + swapped(row), thing), (None, thing))

    def test_two_that_only_look_may_change_places(self):
        rows = [row for row in all_rows("aAbB", 4) if only_looks(row)]
        self.assertGreater(len(rows), 20)
        for one, other in itertools.product(rows, repeat=2):
            self.assertTrue(same(one + other, other + one))

    def test_arguments_by_name(self):
        self.assertTrue(only_looks(row="aA"))


class DoesMore(unittest.TestCase):

    def test_by_hand(self):
        for one, other in (("", ""), ("", "aA"), ("a", "abB"), ("a", "bBa"), ("aA", "aAbB"), ("a", "a"), ("ab", "abcC"),
                           ("aA", "abBA"), ("a", "aAa")):
            self.assertIs(does_more(one, other), True, (one, other))
        for one, other in (("", "a"), ("aA", ""), ("aA", "a"), ("a", "aA"), ("abB", "a"), ("a", "b"), ("aAbB", "aA"),
                           ("a", "ab"), ("bBa", "a"), ("aA", "Aa")):
            self.assertIs(does_more(one, other), False, (one, other))

    def test_all_short_rows(self):
        for one, other in itertools.product(all_rows("aAb", 4), repeat=2):
            more = taken_out(one) == taken_out(other) and set(places_of(one)) <= set(places_of(other))
            self.assertIs(does_more(one, other), more)

    def test_whatever_the_world(self):
        source = source_of(5)
        worlds = [some_world(source)[1] for number in range(20)]
        for one, other in itertools.product(all_rows("aAb", 3), repeat=2):
            if does_more(one, other):
                for laid in worlds:
                    for thing in range(6):
                        self.assertIn(done(laid, other, thing), (None, done(laid, one, thing)))

    def test_both_ways_only_what_is_the_same(self):
        for one, other in itertools.product(all_rows("aAb", 3), repeat=2):
            self.assertIs(does_more(one, other) and does_more(other, one), same(one, other))

    def test_arguments_by_name(self):
        self.assertTrue(does_more(one="", other="aA"))
        self.assertFalse(does_more(other="", one="aA"))


class NoRows(unittest.TestCase):

    def test_each_function_refuses_what_is_no_row(self):
        for thing in NO_ROWS:
            with self.assertRaises(NoRow) as caught:
                only_looks(thing)
            self.assertIs(caught.exception.text, thing)
            for ask in (is_within, not_within, does_more):
                for pair in ((thing, "a"), ("a", thing), (thing, "aAg"), (thing, thing)):
                    with self.assertRaises(NoRow) as caught:
                        ask(*pair)
                    self.assertIs(caught.exception.text, thing)
                with self.assertRaises(NoRow) as caught:
                    ask("xyz", thing)
                self.assertEqual(caught.exception.text, "xyz")


def some_two(source, most=20):
    """Two walks with one end, and the places of each."""
    end = taken_out(some_row(source, 0, 4))
    ways = []
    for walk in range(2):
        tree = some_tree(source, source.randint(1, most), "aAbB")
        ways.append(sorted(set(tree) | {end[:many] for many in range(len(end) + 1)}))
    return Walk(ways[0], end), Walk(ways[1], end), ways[0], ways[1]


class BothAndCommon(unittest.TestCase):

    def test_by_hand(self):
        one, other = walk_of("abBcCA"), walk_of("acCdDAbB")
        self.assertEqual(str(both(one, other)), "- a b ab ac ad : -")
        self.assertEqual(str(common(one, other)), "- a ac : -")
        self.assertEqual(str(both(walk_of("a"), walk_of("abB"))), "- a ab : a")
        self.assertEqual(str(common(walk_of("a"), walk_of("abB"))), "- a : a")
        self.assertEqual(both(Walk(), Walk()), Walk())
        self.assertEqual(common(Walk(), walk_of("aA")), Walk())
        self.assertEqual(both(Walk(), walk_of("aA")), walk_of("aA"))

    def test_places_and_ends(self):
        source = source_of(6)
        for number in range(200):
            one, other, places, others = some_two(source)
            end = one.end()
            for told, tree in ((both(one, other), set(places) | set(others)),
                               (common(one, other), set(places) & set(others))):
                self.assertIsInstance(told, Walk)
                self.assertEqual(set(told.places()), tree)
                self.assertEqual((told.end(), len(told)), (end, len(tree)))
            self.assertEqual(both(other, one), both(one, other))
            self.assertEqual(common(other, one), common(one, other))
            self.assertEqual((one, other), (Walk(places, end), Walk(others, end)))

    def test_both_does_just_what_both_do(self):
        source = source_of(7)
        for number in range(60):
            one, other = walk_of("a" + "bB" * source.randint(0, 1) + "cC"), walk_of("Bba" + "dD" * source.randint(0, 1))
            world = some_world(source)[0]
            product, laid = both(one, other), world.laid()
            for thing in range(len(world)):
                can = all(done(laid, place, thing) is not None for place in one.places() + other.places())
                self.assertEqual(all(done(laid, place, thing) is not None for place in product.places()), can)

    def test_what_does_all_that_each_does_does_all_that_is_common(self):
        source = source_of(8)
        rows = [row for row in all_rows("aAb", 5) if taken_out(row) == "a"]
        for number in range(300):
            one, other, more = [source.choice(rows) for row in range(3)]
            told = common(walk_of(one), walk_of(other))
            if does_more(more, one) and does_more(more, other):
                self.assertLessEqual(set(places_of(more)), set(told.places()))
            self.assertLessEqual(set(told.places()), set(places_of(one)))

    def test_unlike_ends(self):
        for one, other in (("a", ""), ("", "a"), ("a", "A"), ("ab", "aAb"), ("abB", "aAa" + "bBb"), ("aAbB", "b")):
            for ask in (both, common):
                with self.assertRaises(NoEnd) as caught:
                    ask(walk_of(one), walk_of(other))
                self.assertEqual(caught.exception.place, taken_out(other))

    def test_too_many(self):
        line = Walk(["a" * many for many in range(61)])
        for places, many in ((["", "b"], 62), (["", *["b" * size for size in range(1, 61)]], 121), (["", "a", "ab", "aB"], 63)):
            for one, other in ((line, Walk(places)), (Walk(places), line)):
                with self.assertRaises(TooMany) as caught:
                    both(one, other)
                self.assertEqual(caught.exception.many, many)
                self.assertEqual(set(common(one, other).places()), set(places) & set(line.places()))
        self.assertEqual(both(line, line), line)
        self.assertEqual(common(line, line), line)
        self.assertEqual(len(both(Walk(line.places()[:31]), Walk(["b" * size for size in range(31)]))), 61)
        self.assertEqual(line, Walk(["a" * many for many in range(61)]))

    def test_unlike_ends_go_ahead_of_too_many(self):
        with self.assertRaises(NoEnd) as caught:
            both(walk_of("a" * 60), walk_of("b" * 60))
        self.assertEqual(caught.exception.place, "b" * 60)

    def test_told_walks_are_new(self):
        walk = walk_of("ab")
        for ask in (both, common):
            self.assertEqual(ask(walk, walk), walk)
            self.assertIsNot(ask(walk, walk), walk)

    def test_arguments_by_name(self):
        self.assertEqual(both(one=walk_of("aA"), other=walk_of("bB")), walk_of("aAbB"))
        self.assertEqual(common(other=walk_of("aA"), one=walk_of("bB")), Walk())
        with self.assertRaises(NoEnd) as caught:
            both(other=walk_of("a"), one=walk_of("b"))
        self.assertEqual(caught.exception.place, "a")


if __name__ == "__main__":
    unittest.main()
