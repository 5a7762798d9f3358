"""Point [6]: rows by their numbers."""

import itertools
import unittest

from undotrees.errors import NoNumber, NoRow, NoSign
from undotrees.rows import before, number_of, row_at

ALL_SIGNS = "aAbBcCdDeEfF"

NO_DEEDS = (0, 7, -1, 61, 10 ** 60, True, False, None, "", "2", "a", 1.0, 2.0, [], [2], (2,), {}, b"2", object())

NO_NUMBERS = (-1, -5, -10 ** 60, True, False, None, "", "0", "a", 0.0, 1.0, [], [0], (0,), {}, {"a": 1}, b"0", object())


def last_of(deeds):
    """The number of the last row, by counting the rows of each length."""
    return sum((2 * deeds) ** many for many in range(61)) - 1


class ThereAndBack(unittest.TestCase):

    def test_the_first_rows_in_the_order_of_rows(self):
        for deeds in range(1, 7):
            signs = ALL_SIGNS[:2 * deeds]
            most = 7 if deeds == 1 else 3
            rows = ["".join(row) for many in range(most + 1) for row in itertools.product(signs, repeat=many)]
            for number, row in enumerate(rows):
                self.assertEqual(row_at(number, deeds), row)
                self.assertEqual(number_of(row, deeds), number)

    def test_some(self):
        self.assertEqual([row_at(number, 1) for number in range(8)], ["", "a", "A", "aa", "aA", "Aa", "AA", "aaa"])
        self.assertEqual([row_at(number, 2) for number in range(7)], ["", "a", "A", "b", "B", "aa", "aA"])
        self.assertEqual(row_at(13, 6), "aa")
        self.assertEqual(number_of("F", 6), 12)

    def test_two_deeds_where_none_are_told(self):
        for number in (*range(100), 10 ** 9, last_of(2)):
            self.assertEqual(row_at(number), row_at(number, 2))
            self.assertEqual(number_of(row_at(number)), number)
        self.assertEqual(number_of("B"), 4)
        self.assertEqual(row_at(4), "B")

    def test_far_numbers(self):
        for deeds in range(1, 7):
            last = last_of(deeds)
            for number in (last, last - 1, last // 2, last // 3, last // 7 * 5, 10 ** 6, 123456789):
                row = row_at(number, deeds)
                self.assertEqual(number_of(row, deeds), number)
                self.assertTrue(set(row) <= set(ALL_SIGNS[:2 * deeds]))
                if number < last:
                    self.assertTrue(before(row, row_at(number + 1, deeds)))

    def test_the_first_and_the_last_row(self):
        for deeds in range(1, 7):
            with self.subTest(deeds):
                undoing = ALL_SIGNS[2 * deeds - 1]
                self.assertEqual(row_at(0, deeds), "")
                self.assertEqual(number_of("", deeds), 0)
                self.assertEqual(row_at(last_of(deeds), deeds), undoing * 60)
                self.assertEqual(number_of(undoing * 60, deeds), last_of(deeds))
                self.assertEqual(number_of("a" * 60, deeds), last_of(deeds) + 1 - (2 * deeds) ** 60)

    def test_by_name(self):
        self.assertEqual(number_of(row="C", deeds=3), 6)
        self.assertEqual(number_of("C", deeds=3), 6)
        self.assertEqual(number_of(row="B"), 4)
        self.assertEqual(row_at(number=6, deeds=3), "C")
        self.assertEqual(row_at(deeds=1, number=3), "aa")
        self.assertEqual(row_at(number=3), "b")


class Refused(unittest.TestCase):

    def no_number(self, thing, function, *others):
        with self.assertRaises(NoNumber) as caught:
            function(*others)
        self.assertIs(caught.exception.number, thing)

    def no_sign(self, place, *others):
        with self.assertRaises(NoSign) as caught:
            number_of(*others)
        self.assertEqual(caught.exception.place, place)

    def test_what_is_no_number_of_deeds(self):
        for deeds in NO_DEEDS:
            with self.subTest(deeds):
                self.no_number(deeds, number_of, "a", deeds)
                self.no_number(deeds, number_of, "", deeds)
                self.no_number(deeds, row_at, 0, deeds)

    def test_what_is_no_number_of_a_row(self):
        for deeds in range(1, 7):
            for number in (*NO_NUMBERS, last_of(deeds) + 1, last_of(deeds) + 2, 10 ** 69):
                with self.subTest(deeds=deeds, number=number):
                    self.no_number(number, row_at, number, deeds)
        for number in (*NO_NUMBERS, last_of(2) + 1):
            with self.subTest(number):
                self.no_number(number, row_at, number)

    def test_the_deeds_ahead_of_the_number(self):
        for deeds in NO_DEEDS:
            for number in (-1, None, "x", 10 ** 69):
                with self.subTest(deeds=deeds, number=number):
                    self.no_number(deeds, row_at, number, deeds)

    def test_the_place_of_the_first_sign_of_another_deed(self):
        self.no_sign(0, "c")
        self.no_sign(0, "C", 2)
        self.no_sign(2, "abc")
        self.no_sign(1, "aCd", 2)
        self.no_sign(3, "aAaBbf", 1)
        self.no_sign(59, "a" * 59 + "F", 5)
        self.no_sign(4, "eEdDFf", 5)

    def test_each_sign_over_each_number_of_deeds(self):
        for deeds in range(1, 7):
            for number, sign in enumerate(ALL_SIGNS):
                with self.subTest(deeds=deeds, sign=sign):
                    if number < 2 * deeds:
                        self.assertEqual(number_of(sign, deeds), number + 1)
                    else:
                        self.no_sign(0, sign, deeds)
                        self.no_sign(3, "aAa" + sign + "F", deeds)

    def test_another_sign_behind_the_deeds_and_those_behind_the_row(self):
        self.no_number(0, number_of, "f", 0)
        self.no_number(True, number_of, "abF", True)
        with self.assertRaises(NoRow):
            number_of("g", 0)


if __name__ == "__main__":
    unittest.main()
