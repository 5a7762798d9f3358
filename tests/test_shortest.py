"""Point [14]: the shortest rows of a walk, how many they are, and their numbers."""

import math
import unittest

from samples import (ODD_THINGS, Hostile, all_rows, order, shape_of, some_row, some_tree, some_walking, source_of)
from undotrees.errors import NoNumber
from undotrees.rows import is_row
from undotrees.shortest import shortest_at, shortest_many, shortest_number, signs_many
from undotrees.steps import is_long_row
from undotrees.unlike import same
from undotrees.walks import Walk, walk_of

STAR = Walk(["", *"aAbBcCdDeEfF"])


def great_walk(source, many):
    places = some_tree(source, many)
    return Walk(places, source.choice(places))


class Small(unittest.TestCase):

    @classmethod
    def setUpClass(cls):
        """All rows over two deeds up to 6 signs, and of three up to 4: of each walk the shortest ones, in order."""
        cls.shortest = {}
        for signs, most in (("aAbB", 6), ("aAbBcC", 4)):
            for row in all_rows(signs, most):
                rows = cls.shortest.setdefault(shape_of(row), [])
                if row not in rows and (not rows or len(rows[0]) == len(row)):
                    rows.append(row)
        for rows in cls.shortest.values():
            rows.sort(key=order)

    def test_how_many_signs_and_how_many_they_are(self):
        for (places, end), rows in self.shortest.items():
            walk = Walk(places, end)
            self.assertEqual(signs_many(walk), len(rows[0]))
            self.assertEqual(shortest_many(walk), len(rows))

    def test_the_one_of_a_number(self):
        for (places, end), rows in self.shortest.items():
            walk = Walk(places, end)
            self.assertEqual([shortest_at(walk, number) for number in range(len(rows))], rows)
            for number in (-1, len(rows), len(rows) + 1):
                with self.assertRaises(NoNumber) as caught:
                    shortest_at(walk, number)
                self.assertEqual(caught.exception.number, number)

    def test_the_number_of_one(self):
        for (places, end), rows in self.shortest.items():
            walk = Walk(places, end)
            self.assertEqual([shortest_number(walk, row) for row in rows], list(range(len(rows))))

    def test_none_of_what_is_none(self):
        rows = list(all_rows("aAb", 5))
        for told in ("", "a", "aA", "aAb", "abB", "aAbB", "abBA"):
            walk, right = walk_of(told), self.shortest[shape_of(told)]
            for row in rows:
                self.assertEqual(shortest_number(walk, row), right.index(row) if row in right else None, (told, row))

    def test_of_all_rows_that_walk_it_none_is_shorter(self):
        for row in all_rows("aAbB", 5):
            self.assertLessEqual(signs_many(walk_of(row)), len(row))


class ByHand(unittest.TestCase):

    def test_one_place(self):
        self.assertEqual((signs_many(Walk()), shortest_many(Walk())), (0, 1))
        self.assertEqual(shortest_at(Walk()), "")
        self.assertEqual(shortest_number(Walk(), ""), 0)
        self.assertIsNone(shortest_number(Walk(), "aA"))

    def test_rounds(self):
        walk = walk_of("cCBbaA")
        self.assertEqual([shortest_at(walk, number) for number in range(6)],
                         ["aABbcC", "aAcCBb", "BbaAcC", "BbcCaA", "cCaABb", "cCBbaA"])

    def test_a_way_to_the_end(self):
        walk = walk_of("bBaAcdDeEf")
        self.assertEqual((signs_many(walk), shortest_many(walk)), (10, 4))
        self.assertEqual([shortest_at(walk, number) for number in range(4)],
                         ["aAbBcdDeEf", "aAbBceEdDf", "bBaAcdDeEf", "bBaAceEdDf"])

    def test_rounds_within_rounds(self):
        walk = Walk(["", "a", "b", "ab", "aB", "ba"], "")
        self.assertEqual([shortest_at(walk, number) for number in range(4)],
                         ["abBBbAbaAB", "aBbbBAbaAB", "baABabBBbA", "baABaBbbBA"])
        self.assertEqual(shortest_many(walk), 4)

    def test_the_first_one_where_no_number_is_told(self):
        self.assertEqual(shortest_at(walk_of("bBaA")), "aAbB")

    def test_arguments_by_name(self):
        walk = walk_of("bBaA")
        self.assertEqual(signs_many(walk=walk), 4)
        self.assertEqual(shortest_many(walk=walk), 2)
        self.assertEqual(shortest_at(walk=walk, number=1), "bBaA")
        self.assertEqual(shortest_at(number=0, walk=walk), "aAbB")
        self.assertEqual(shortest_number(thing="bBaA", walk=walk), 1)


class Great(unittest.TestCase):

    def numbers(self, source, many):
        return sorted({0, many - 1, many // 2} | {source.randrange(many) for number in range(6)})

    def test_there_and_back(self):
        source = source_of(1)
        for places in [2, 10, 30, 31, 32, 45, 60, 61] * 3:
            walk = great_walk(source, places)
            numbers = self.numbers(source, shortest_many(walk))
            rows = [shortest_at(walk, number) for number in numbers]
            self.assertEqual(rows, sorted(rows, key=order))
            self.assertEqual([shortest_number(walk, row) for row in rows], numbers)
            for row in rows:
                self.assertEqual(len(row), signs_many(walk))
                self.assertEqual(len(row), 2 * (places - 1) - len(walk.end()))
                self.assertTrue(is_long_row(row))
                self.assertEqual(shape_of(row), (tuple(walk.places()), walk.end()))

    def test_some_way_of_going_is_one_of_them(self):
        source = source_of(2)
        for number in range(60):
            walk = great_walk(source, source.randint(1, 61))
            row = some_walking(source, walk.places(), walk.end())
            number = shortest_number(walk, row)
            self.assertIn(number, range(shortest_many(walk)))
            self.assertEqual(shortest_at(walk, number), row)

    def test_neighbours_rise_by_one(self):
        source = source_of(3)
        for number in range(10):
            walk = great_walk(source, 20)
            many = shortest_many(walk)
            begin = source.randrange(max(1, many - 20))
            rows = [shortest_at(walk, number) for number in range(begin, min(begin + 20, many))]
            self.assertEqual(rows, sorted(set(rows), key=order))

    def test_how_many(self):
        self.assertEqual(shortest_many(STAR), math.factorial(12))
        self.assertEqual(signs_many(STAR), 24)
        self.assertEqual(shortest_at(STAR), "aAAabBBbcCCcdDDdeEEefFFf")
        self.assertEqual(shortest_at(STAR, math.factorial(12) - 1), "FffFEeeEDddDCccCBbbBAaaA")
        full = Walk(STAR.places() + ["a" + sign for sign in "abBcCdDeEfF"], "ab")
        self.assertEqual(shortest_many(full), math.factorial(11) * math.factorial(10))
        line = walk_of("a" * 60)
        self.assertEqual((shortest_many(line), signs_many(line), shortest_at(line)), (1, 60, "a" * 60))
        back = Walk(line.places(), "")
        self.assertEqual((shortest_many(back), signs_many(back)), (1, 120))

    def test_more_than_sixty_signs(self):
        line = Walk(["a" * many for many in range(61)], "")
        row = shortest_at(line)
        self.assertEqual(row, "a" * 60 + "A" * 60)
        self.assertFalse(is_row(row))
        self.assertTrue(is_long_row(row))
        self.assertEqual(shortest_number(line, row), 0)
        self.assertIsNone(shortest_number(line, row[:60]))

    def test_rows_with_a_sign_changed(self):
        source = source_of(4)
        walk = Walk(some_tree(source, 12, "aAbB"), "")
        row = shortest_at(walk, shortest_many(walk) // 2)
        for at in range(len(row)):
            for sign in "aAbBcgG -":
                other = row[:at] + sign + row[at + 1:]
                number = shortest_number(walk, other)
                if number is None:
                    self.assertTrue("c" in other or not is_long_row(other) or len(other) != signs_many(walk)
                                    or shape_of(other) != (tuple(walk.places()), ""))
                else:
                    self.assertEqual(shortest_at(walk, number), other)


class Refused(unittest.TestCase):

    def test_numbers_for_which_there_is_none(self):
        walk = walk_of("aAbB")
        for thing in (-1, 2, 3, -10 ** 60, 10 ** 60, True, False, None, "0", "", 0.0, 1.0, [], [0], (0,), {}, b"0",
                      object(), Hostile()):
            with self.assertRaises(NoNumber) as caught:
                shortest_at(walk, thing)
            self.assertIs(caught.exception.number, thing)
        with self.assertRaises(NoNumber):
            shortest_at(STAR, math.factorial(12))

    def test_none_of_anything_else(self):
        for thing in ODD_THINGS + ("bBaAg", "aAb", "aAbBA", "aAb ", "aAb\n", "AaBb", "abBA", "aaAA", ["aAbB"], ("aAbB",),
                                   b"aAbB", list("aAbB"), tuple("aAbB"), "----", "    ", "gGhH"):
            self.assertIsNone(shortest_number(walk_of("aAbB"), thing))
        for thing in ODD_THINGS:
            self.assertEqual(shortest_number(Walk(), thing), 0 if isinstance(thing, str) and thing == "" else None)
            self.assertEqual(shortest_number(walk_of("a"), thing), 0 if isinstance(thing, str) and thing == "a" else None)

    def test_walks_stay_and_what_is_asked_twice_is_told_alike(self):
        walk = walk_of("aAbBcCab")
        for number in range(2):
            self.assertEqual(shortest_many(walk), 2)
            self.assertEqual(shortest_at(walk, 1), "cCbBab")
            self.assertEqual(shortest_number(walk, "bBcCab"), 0)
            self.assertEqual(signs_many(walk), 6)
            self.assertEqual(walk, walk_of("aAbBcCab"))


class Whole(unittest.TestCase):
    """Of point [4]: just the rows told to be the same as a walk's row walk it."""

    def test_just_the_rows_that_are_the_same_walk_it(self):
        rows = list(all_rows("aAb", 4))
        for told in ("", "aA", "abB", "aAb", "bBaA"):
            row = shortest_at(walk_of(told))
            for other in rows:
                self.assertEqual(same(row, other), shape_of(other) == shape_of(told))

    def test_a_row_and_the_shortest_one_are_the_same(self):
        source = source_of(5)
        for number in range(100):
            row = some_row(source)
            short = shortest_at(walk_of(row))
            self.assertLessEqual(len(short), len(row))
            self.assertTrue(same(row, short))


if __name__ == "__main__":
    unittest.main()
