"""Of point [13]: long rows and single steps."""

import unittest

from samples import (ALL_SIGNS, ODD_THINGS, Hostile, done, expected, shape_of, some_row, some_world, source_of, swapped)
from undotrees.errors import NoRow, NoStep
from undotrees.steps import is_long_row, led_on, stepped

NO_LONG_ROWS = ("a" * 4001, "g", "abg", "a b", "a\n", "-", " ", None, True, 0, 1.5, [], ["a"], (), ("a",), {}, b"a",
                object(), Hostile())


class LongRows(unittest.TestCase):

    def test_long_rows(self):
        for row in ("", "a", ALL_SIGNS, "a" * 60, "a" * 61, "aB" * 31, "F" * 3999, "f" * 4000, "aAbB" * 1000):
            self.assertIs(is_long_row(row), True)

    def test_other_things(self):
        for thing in NO_LONG_ROWS + ("a" * 4000 + "A", "a" * 3999 + "g", "g" + "a" * 3999, "a" * 6000):
            self.assertIs(is_long_row(thing), False)
        for thing in ODD_THINGS:
            self.assertIs(is_long_row(thing), isinstance(thing, str) and thing in ("", "a"))

    def test_arguments_by_name(self):
        self.assertTrue(is_long_row(thing="ab"))


class Refusing(unittest.TestCase):

    def refused(self, row, step):
        with self.assertRaises(NoStep) as caught:
            stepped(row, step)
        self.assertEqual(caught.exception.number, 0)
        self.assertIs(type(caught.exception.number), int)


class Less(Refusing):

    def test_where_it_can_be_done(self):
        for row, at, many, after in (
                ("aAa", 0, 1, "a"), ("AaA", 0, 1, "A"), ("abBAab", 0, 2, "ab"), ("caAac", 1, 1, "cac"),
                ("aAaAa", 0, 1, "aAa"), ("aAaAa", 1, 1, "aAa"), ("aAaAa", 2, 1, "aAa"), ("aAaaAa", 0, 3, None),
                ("aAbBaAaAbB", 0, 4, None), ("aAbbBaAaAb", 0, 3, None), ("bcdDCBbcdE", 0, 3, "bcdE"),
                ("aAaAaAaAa", 0, 3, "aAa"), ("fabBAabF", 1, 2, "fabF")):
            if after is None:
                self.refused(row, ("less", at, many))
            else:
                self.assertEqual(stepped(row, ("less", at, many)), after)

    def test_where_it_cant(self):
        for row, at, many in (
                ("aAa", 1, 1), ("aAa", 2, 1), ("aAa", 3, 1), ("aAa", 4, 1), ("aAa", 0, 2), ("aAa", 0, 0), ("aAa", 0, 3),
                ("", 0, 0), ("", 0, 1), ("aAb", 0, 1), ("aaa", 0, 1), ("aaA", 0, 1), ("baa", 0, 1), ("aA", 0, 1),
                ("abABab", 0, 2), ("abBAba", 0, 2), ("abBAa", 0, 2), ("aAa", -3, 1), ("aAa", -1, 1), ("aAa", 0, -1),
                ("aAa", 2, -1), ("aAa", 0, 10 ** 60), ("aAa", 10 ** 60, 1), ("aAa", -10 ** 60, 1), ("aAaa", 0, -1)):
            self.refused(row, ("less", at, many))

    def test_long_ones(self):
        part = "ab" * 600
        row = part + swapped(part) + part
        self.assertEqual(stepped(row, ("less", 0, 1200)), part)
        self.refused(row + "a" * 400, ("less", 1, 1200))
        self.assertEqual(stepped(row + "a" * 400, ("less", 0, 1200)), part + "a" * 400)


class More(Refusing):

    def test_where_it_can_be_done(self):
        for row, at, many, after in (
                ("a", 0, 1, "aAa"), ("ab", 0, 2, "abBAab"), ("ab", 0, 1, "aAab"), ("ab", 1, 1, "abBb"),
                ("abc", 1, 1, "abBbc"), ("abcd", 1, 2, "abcCBbcd"), ("aA", 0, 2, "aAaAaA"), ("AB", 0, 2, "ABbaAB")):
            self.assertEqual(stepped(row, ("more", at, many)), after)

    def test_where_it_cant(self):
        for row, at, many in (
                ("", 0, 0), ("", 0, 1), ("a", 0, 0), ("a", 0, 2), ("a", 1, 1), ("a", 1, 0), ("a", 2, 1), ("a", -1, 1),
                ("ab", -2, 1), ("ab", 0, -1), ("ab", 1, -1), ("ab", 2, -1), ("ab", 1, 2), ("ab", 0, 10 ** 60),
                ("ab", 10 ** 60, 1), ("ab", -10 ** 60, 10 ** 60), ("abc", -1, 2)):
            self.refused(row, ("more", at, many))

    def test_4000_signs_and_more(self):
        self.assertEqual(stepped("a" * 3998, ("more", 0, 1)), "aA" + "a" * 3998)
        self.assertEqual(stepped("a" * 3998, ("more", 3997, 1)), "a" * 3998 + "Aa")
        self.assertEqual(len(stepped("a" * 3900, ("more", 7, 50))), 4000)
        self.refused("a" * 3999, ("more", 0, 1))
        self.refused("a" * 4000, ("more", 0, 1))
        self.refused("a" * 3900, ("more", 7, 51))
        self.refused("a" * 2000, ("more", 0, 1001))
        self.assertEqual(len(stepped("a" * 2000, ("more", 0, 1000))), 4000)


class Past(Refusing):

    def test_where_it_can_be_done(self):
        for row, at, many, others, after in (
                ("aAbB", 0, 1, 1, "bBaA"), ("aAAa", 0, 1, 1, "AaaA"), ("abBAcC", 0, 2, 1, "cCabBA"),
                ("cCabBA", 0, 1, 2, "abBAcC"), ("daAbBe", 1, 1, 1, "dbBaAe"), ("aAaA", 0, 1, 1, "aAaA"),
                ("dabcCBAefFED", 1, 3, 2, "defFEabcCBAD"), ("aAbBcC", 2, 1, 1, "aAcCbB")):
            self.assertEqual(stepped(row, ("past", at, many, others)), after)

    def test_where_it_cant(self):
        for row, at, many, others in (
                ("aAbB", 0, 1, 0), ("aAbB", 0, 0, 1), ("aAbB", 0, 2, 1), ("aAbB", 0, 1, 2), ("aAbB", 1, 1, 1),
                ("aAbB", 2, 1, 1), ("aAbB", 4, 1, 1), ("aAbB", -4, 1, 1), ("aAbB", 0, 0, 0), ("aAbB", 0, 0, 2),
                ("", 0, 1, 1), ("aAbb", 0, 1, 1), ("aabB", 0, 1, 1), ("aAb", 0, 1, 1), ("aA", 0, 1, 0), ("abcd", 0, 1, 1),
                ("aAbB", 0, -1, 1), ("aAbB", 0, 1, -1), ("aAbB", 2, -1, 1), ("aAbB", 0, 10 ** 60, 1),
                ("aAbB", 0, 1, 10 ** 60), ("aAbB", 10 ** 60, 1, 1), ("aAbc", 0, 1, 1), ("aAbB", 2, -1, 2)):
            self.refused(row, ("past", at, many, others))

    def test_of_4000_signs(self):
        row = "a" * 1999 + "A" * 1999 + "bB"
        self.assertEqual(stepped(row, ("past", 0, 1999, 1)), "bB" + "a" * 1999 + "A" * 1999)


class Forms(Refusing):

    def test_odd_forms(self):
        for step in (
                ("less",), ("less", 0), ("less", 0, 1, 1), ("more",), ("more", 0), ("more", 0, 1, 1), ("past", 0, 1),
                ("past", 0, 1, 1, 1), ("past",), ["less", 0, 1], ["more", 0, 1], ["past", 0, 1, 1], ("less", [0, 1]),
                ("Less", 0, 1), ("LESS", 0, 1), ("less ", 0, 1), ("lesser", 0, 1), ("", 0, 1), (None, 0, 1), (0, 1),
                (0, 1, 1), ("more", "0", 1), ("more", 0, "1"), ("more", 0.0, 1), ("more", 0, 1.0), ("more", None, 1),
                ("more", 0, None), ("more", False, 1), ("more", 0, True), ("less", False, 1), ("less", 0, True),
                ("past", False, 1, 1), ("past", 0, True, 1), ("past", 0, 1, True), ("past", 0, 1, None),
                (b"more", 0, 1), (["more"], 0, 1), (("more",), 0, 1), (("more", 0, 1),), "more", "more 0 1", ("more 0 1",),
                {"more": 0}, ("more", (0,), 1), ("more", Hostile(), 1), ("more", 0, Hostile()), (Hostile(), 0, 1)):
            for row in ("aAaAaAaA", "aAa"):
                self.refused(row, step)

    def test_anything(self):
        for step in ODD_THINGS:
            self.refused("aAaAaA", step)
            self.refused("", step)

    def test_no_row_goes_ahead(self):
        for row in NO_LONG_ROWS:
            for step in (("more", 0, 1), None, Hostile()):
                with self.assertRaises(NoRow) as caught:
                    stepped(row, step)
                self.assertIs(caught.exception.text, row)

    def test_arguments_by_name(self):
        self.assertEqual(stepped(row="a", step=("more", 0, 1)), "aAa")
        self.assertEqual(stepped(step=("less", 0, 1), row="aAa"), "a")


class LedOn(unittest.TestCase):

    def test_none_one_and_many(self):
        self.assertEqual(led_on("ab", []), "ab")
        self.assertEqual(led_on("", []), "")
        self.assertEqual(led_on("a" * 4000, []), "a" * 4000)
        self.assertEqual(led_on("ab", [("more", 0, 1)]), "aAab")
        self.assertEqual(led_on("ab", [("more", 0, 1), ("more", 3, 1), ("less", 0, 1)]), "abBb")
        self.assertEqual(led_on("aAbB", [("past", 0, 1, 1)] * 7), "bBaA")
        self.assertEqual(led_on("a", [("more", 0, 1)] * 1999 + [("less", 0, 1)] * 1999), "a")

    def test_the_first_that_cant_be_done(self):
        more, less = ("more", 0, 1), ("less", 0, 1)
        for row, steps, number in (
                ("a", [less], 0), ("a", [more, less, less], 2), ("a", [more, None, less, Hostile()], 1),
                ("a", [more] * 5 + [("more", 99, 1)], 5), ("", [more], 0), ("aa", [more] * 2000, 1999),
                ("a", [[more]], 0), ("a", [more, list(more)], 1)):
            with self.assertRaises(NoStep) as caught:
                led_on(row, steps)
            self.assertEqual(caught.exception.number, number)

    def test_no_row_goes_ahead(self):
        for row in NO_LONG_ROWS:
            for steps in ([], [None]):
                with self.assertRaises(NoRow):
                    led_on(row, steps)

    def test_the_list_stays(self):
        steps = [("more", 0, 1), ("less", 0, 1)]
        led_on("ab", steps)
        self.assertEqual(steps, [("more", 0, 1), ("less", 0, 1)])
        with self.assertRaises(NoStep):
            led_on("", steps)
        self.assertEqual(steps, [("more", 0, 1), ("less", 0, 1)])

    def test_arguments_by_name(self):
        self.assertEqual(led_on(row="ab", steps=[]), "ab")
        self.assertEqual(led_on(steps=[("more", 1, 1)], row="ab"), "abBb")


def all_steps(row):
    """All steps that have numbers within a row."""
    numbers = range(len(row) + 1)
    for at in numbers:
        for many in numbers:
            yield ("less", at, many)
            yield ("more", at, many)
            for others in numbers:
                yield ("past", at, many, others)


class AllSteps(unittest.TestCase):

    def test_all_steps_of_some_rows(self):
        source = source_of(1)
        rows = ["aAaAaA", "abBAabBA", "aAbBcCdD", "abBAcCab", "aabBAAbB"]
        rows += [some_row(source, 0, 7) for number in range(20)]
        rows += ["aA" * 5, "bBAaaAbB", "abcCBAabcC", "aAabBAaA"]
        can = 0
        for row in rows:
            for step in all_steps(row):
                after = expected(row, step)
                if after is None:
                    with self.assertRaises(NoStep):
                        stepped(row, step)
                else:
                    self.assertEqual(stepped(row, step), after)
                    self.assertEqual(shape_of(after), shape_of(row))
                    can += step[0] != "more"
        self.assertGreater(can, 50)

    def test_a_step_does_the_same_in_all_worlds(self):
        source = source_of(2)
        for number in range(30):
            row = some_row(source, 0, 4)
            row = row + swapped(row)
            laid = some_world(source)[1]
            for step in all_steps(row):
                after = expected(row, step)
                if after is not None:
                    for thing in range(6):
                        self.assertEqual(done(laid, stepped(row, step), thing), done(laid, row, thing))


if __name__ == "__main__":
    unittest.main()
