"""Point [5]: rows, their contraries, plain rows, deeds and order."""

import itertools
import random
import unittest

from undotrees.errors import NoRow
from undotrees.rows import before, contrary, deeds_of, is_row, number_of, plain

ALL_SIGNS = "aAbBcCdDeEfF"

NO_ROWS = (
    "a" * 61, "aB" * 31, "F" * 6000,
    "g", "G", "x", "abg", "gab", "agb", "a1", "0", "-", "~", "!", "aa.",
    " ", "a b", " a", "a ", "\t", "a\t", "\n", "a\n", "\nab", "ab\ncd",
    None, True, False, 0, 1, -1, 60, 1.5, [], ["a"], ["a", "b"], (), ("a",), {}, {"a": 1}, {"a"}, b"", b"ab",
    bytearray(b"a"), object(), len, str, ["a", ["b"]],
)


class Hostile:
    """No row: all that may be asked of it fails."""

    def __eq__(self, other):
        raise RuntimeError("compared")

    def __len__(self):
        raise RuntimeError("measured")

    def __iter__(self):
        raise RuntimeError("gone through")

    def __str__(self):
        raise RuntimeError("written")

    __repr__ = __str__
    __hash__ = None


def all_rows(signs, most):
    for many in range(most + 1):
        for row in itertools.product(signs, repeat=many):
            yield "".join(row)


def some_rows(many, seed):
    source = random.Random(seed)
    for number in range(many):
        signs = ALL_SIGNS[:2 * source.randint(1, 6)]
        yield "".join(source.choice(signs) for place in range(source.randint(0, 60)))


def swapped(row):
    """The contrary of a row, made sign by sign from the words of the document."""
    other = ""
    for sign in row:
        other = (sign.upper() if sign.islower() else sign.lower()) + other
    return other


def is_plain(row):
    return not any(one != other and one.lower() == other.lower() for one, other in zip(row, row[1:]))


def taken_out(row, choose):
    """The row made plain by taking out two neighbours again and again, those that choose picks."""
    while True:
        places = [at for at in range(len(row) - 1)
                  if row[at] != row[at + 1] and row[at].lower() == row[at + 1].lower()]
        if not places:
            return row
        at = choose(places)
        row = row[:at] + row[at + 2:]


class IsRow(unittest.TestCase):

    def test_rows(self):
        rows = ["", *ALL_SIGNS, "aA", "abcdefABCDEF", "a" * 60, "F" * 60, "aAbBcC" * 10, "a" * 59]
        for row in rows:
            with self.subTest(row):
                self.assertIs(is_row(row), True)

    def test_no_rows(self):
        for thing in NO_ROWS:
            with self.subTest(thing):
                self.assertIs(is_row(thing), False)
        self.assertIs(is_row(Hostile()), False)

    def test_each_single_sign(self):
        for number in range(128):
            with self.subTest(number):
                self.assertIs(is_row(chr(number)), chr(number) in set(ALL_SIGNS))

    def test_another_sign_at_each_place(self):
        for at in range(60):
            row = "b" * at + "g" + "b" * (59 - at)
            with self.subTest(at):
                self.assertIs(is_row(row), False)

    def test_by_name(self):
        self.assertIs(is_row(thing="ab"), True)
        self.assertIs(is_row(thing=5), False)


class NoRows(unittest.TestCase):

    def refused(self, thing, function, *others):
        with self.assertRaises(NoRow) as caught:
            function(*others)
        self.assertIs(caught.exception.text, thing)

    def test_each_refuses_what_is_no_row(self):
        for thing in (*NO_ROWS, Hostile()):
            for function in (contrary, plain, deeds_of, number_of):
                with self.subTest(function=function.__name__):
                    self.refused(thing, function, thing)
            with self.subTest("before"):
                self.refused(thing, before, thing, "a")
                self.refused(thing, before, "a", thing)

    def test_the_first_of_two_rows_first(self):
        self.refused("x", before, "x", "y")
        self.refused("y", before, "y", "x")
        self.refused(5, before, 5, None)

    def test_ahead_of_the_deeds(self):
        for deeds in (0, 7, None, True, "x"):
            with self.subTest(deeds):
                self.refused("x", number_of, "x", deeds)

    def test_what_is_refused_is_not_changed(self):
        thing = ["a", ["b"]]
        self.refused(thing, plain, thing)
        self.assertEqual(thing, ["a", ["b"]])


class Contrary(unittest.TestCase):

    def test_some(self):
        for row, other in (("", ""), ("a", "A"), ("A", "a"), ("ab", "BA"), ("aB", "bA"), ("aA", "aA"),
                           ("abcdef", "FEDCBA"), ("aab", "BAA"), ("Fed", "DEf")):
            with self.subTest(row):
                self.assertEqual(contrary(row), other)

    def test_sixty_signs(self):
        self.assertEqual(contrary("aB" * 30), "bA" * 30)
        self.assertEqual(contrary("a" * 59 + "f"), "F" + "A" * 59)

    def test_signs_reversed_and_each_its_contrary(self):
        for row in (*all_rows("aAbB", 4), *some_rows(200, 1)):
            with self.subTest(row):
                self.assertEqual(contrary(row), swapped(row))

    def test_twice_is_the_row(self):
        for row in (*all_rows("aBcF", 4), *some_rows(200, 2)):
            with self.subTest(row):
                self.assertEqual(contrary(contrary(row)), row)

    def test_by_name(self):
        self.assertEqual(contrary(row="ab"), "BA")


class Plain(unittest.TestCase):

    def test_some(self):
        for row, other in (("", ""), ("a", "a"), ("aa", "aa"), ("aA", ""), ("Aa", ""), ("abBA", ""), ("abBa", "aa"),
                           ("aAa", "a"), ("AaA", "A"), ("abAB", "abAB"), ("aAbB", ""), ("abBAc", "c"),
                           ("cabBAd", "cd"), ("cabBAC", ""), ("aB", "aB"), ("fFeEf", "f"), ("bAaaAB", "")):
            with self.subTest(row):
                self.assertEqual(plain(row), other)

    def test_sixty_signs(self):
        self.assertEqual(plain("a" * 60), "a" * 60)
        self.assertEqual(plain("aA" * 30), "")
        self.assertEqual(plain("a" * 30 + "A" * 30), "")
        self.assertEqual(plain("b" + "a" * 29 + "A" * 29 + "b"), "bb")
        self.assertEqual(plain("abcdef" * 5 + "FEDCBA" * 5), "")

    def test_one_plain_row_whichever_goes_first(self):
        source = random.Random(3)
        for row in (*all_rows("aAbB", 5), *some_rows(200, 4)):
            with self.subTest(row):
                told = plain(row)
                self.assertTrue(is_plain(told))
                self.assertEqual(told, taken_out(row, min))
                self.assertEqual(told, taken_out(row, max))
                self.assertEqual(told, taken_out(row, source.choice))

    def test_a_plain_row_stays(self):
        for row in all_rows("aAbB", 5):
            if is_plain(row):
                with self.subTest(row):
                    self.assertEqual(plain(row), row)

    def test_a_row_with_its_contrary_behind_it(self):
        for row in (*all_rows("aAbBf", 4), *some_rows(200, 5)):
            half = row[:30]
            with self.subTest(half):
                self.assertEqual(plain(half + contrary(half)), "")
                self.assertEqual(plain(contrary(half) + half), "")

    def test_by_name(self):
        self.assertEqual(plain(row="abB"), "a")


class DeedsOf(unittest.TestCase):

    def test_some(self):
        for row, deeds in (("", ()), ("a", ("a",)), ("A", ("a",)), ("aA", ("a",)), ("ba", ("a", "b")),
                           ("fA", ("a", "f")), ("FEDCBA", ("a", "b", "c", "d", "e", "f")), ("CcC", ("c",)),
                           ("bB" * 30, ("b",)), ("d" * 59 + "C", ("c", "d"))):
            with self.subTest(row):
                self.assertEqual(deeds_of(row), deeds)
                self.assertIsInstance(deeds_of(row), tuple)

    def test_all(self):
        for row in some_rows(200, 6):
            with self.subTest(row):
                self.assertEqual(deeds_of(row), tuple(sorted(set(row.lower()))))

    def test_by_name(self):
        self.assertEqual(deeds_of(row="bA"), ("a", "b"))


class Before(unittest.TestCase):

    def test_the_shorter_one_first(self):
        for one, other in (("", "a"), ("F", "aa"), ("f", "aA"), ("FFF", "aaaa"), ("F" * 59, "a" * 60)):
            with self.subTest(one=one, other=other):
                self.assertIs(before(one, other), True)
                self.assertIs(before(other, one), False)

    def test_the_order_of_signs(self):
        for one, other in itertools.product(ALL_SIGNS, repeat=2):
            with self.subTest(one=one, other=other):
                ahead = ALL_SIGNS.index(one) < ALL_SIGNS.index(other)
                self.assertIs(before(one, other), ahead)
                self.assertIs(before("cD" + one + "f", "cD" + other + "a"), ahead)

    def test_the_first_unlike_place_tells(self):
        for one, other in (("aF", "Aa"), ("abF", "aBa"), ("aAb", "aAB"), ("Bc", "cA"), ("a" * 59 + "e", "a" * 59 + "E")):
            with self.subTest(one=one, other=other):
                self.assertIs(before(one, other), True)
                self.assertIs(before(other, one), False)

    def test_a_row_is_not_before_itself(self):
        for row in ("", "a", "F", "abAB", "c" * 60):
            with self.subTest(row):
                self.assertIs(before(row, row), False)

    def test_all_short_rows_stand_in_one_order(self):
        rows = list(all_rows("aAbB", 3))
        for number, one in enumerate(rows):
            for place, other in enumerate(rows):
                self.assertIs(before(one, other), number < place, (one, other))

    def test_by_name(self):
        self.assertIs(before(one="a", other="A"), True)
        self.assertIs(before(other="a", one="A"), False)


if __name__ == "__main__":
    unittest.main()
