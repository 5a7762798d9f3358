"""Of point [13]: chains of single steps from a row to another one; and what [4] says of them."""

import itertools
import unittest

from samples import (NO_ROWS, ODD_THINGS, Hostile, all_rows, back_and_forth, expected, put_in, shape_of, some_row,
                     some_tree, some_walking, some_world, source_of, swapped)
from undotrees.chains import chain, is_chain
from undotrees.errors import NoRow
from undotrees.steps import led_on
from undotrees.unlike import same, tells_unlike

SAME = (("", ""), ("a", "a"), ("a", "aAa"), ("aA", "aAaA"), ("aAbB", "bBaA"), ("abBA", "aAabBA"), ("bBaAb", "aAb"),
        ("abBcCA", "acCbBA"), ("AabB", "bBAa"), ("aAbBcCdD", "dDbBaAcC"))

NOT_SAME = (("", "a"), ("", "aA"), ("a", "A"), ("aA", "Aa"), ("ab", "ba"), ("abB", "a"), ("aAbB", "aA"), ("aAb", "aAbB"))


class Chains(unittest.TestCase):

    def check(self, one, other):
        """A chain is told, and each step of it can be done."""
        told = chain(one, other)
        self.assertIs(type(told), list)
        self.assertLessEqual(len(told), 8000)
        at = one
        for step in told:
            self.assertIs(type(step), tuple)
            at = expected(at, step)
            self.assertIsNotNone(at, (one, other, step))
            self.assertLessEqual(len(at), 4000)
        self.assertEqual(at, other)
        self.assertEqual(led_on(one, told), other)
        self.assertIs(is_chain(one, other, told), True)

    def test_by_hand(self):
        for one, other in SAME:
            self.check(one, other)
            self.check(other, one)

    def test_all_short_rows(self):
        kinds = {}
        for row in all_rows("aAbB", 5):
            kinds.setdefault(shape_of(row), []).append(row)
        for rows in kinds.values():
            for row in rows:
                self.check(row, rows[0])
            self.check(rows[0], rows[-1])

    def test_a_part_and_its_contrary_put_in(self):
        source = source_of(1)
        for number in range(60):
            row = some_row(source, 0, 20)
            self.check(row, put_in(source, row))

    def test_rounds_that_change_places(self):
        source = source_of(2)
        for number in range(40):
            begin, one, other, rest = [some_row(source, 0, 8) for part in range(4)]
            rounds = one + swapped(one), other + swapped(other)
            rest = rest[:60 - len(begin + rounds[0] + rounds[1])]
            self.check(begin + rounds[0] + rounds[1] + rest, begin + rounds[1] + rounds[0] + rest)

    def test_two_rows_of_sixty_signs_that_walk_one_tree(self):
        source = source_of(3)
        for number in range(40):
            places = some_tree(source, source.randint(2, 31), "aAbBcCdDeEfF"[:2 * source.randint(1, 6)])
            end = source.choice(places)
            one, other = [self.filled(source, some_walking(source, places, end)) for row in range(2)]
            self.assertEqual(shape_of(one), shape_of(other))
            self.check(one, other)

    def filled(self, source, row):
        """The row with sign after sign gone, back and again, till it has 59 or 60 signs."""
        while row and len(row) < 59:
            at = source.randint(1, len(row))
            row = row[:at] + swapped(row[at - 1]) + row[at - 1:]
        return row

    def test_rows_of_sixty_signs_in_which_much_is_taken_back(self):
        source = source_of(4)
        for number in range(15):
            row = back_and_forth(source)
            self.check(row, row)
            self.check(row[:20], put_in(source, row[:20]))

    def test_the_longest_ones(self):
        for one, other in (("a" * 60, "a" * 60), ("F" * 59, "F" * 59), ("a" * 30 + "A" * 30, "a" * 30 + "A" * 30),
                           ("aA" * 30, "aA"), ("aA", "aA" * 30), ("a" * 58 + "Aa", "a" * 58), ("ab" * 29 + "Bb", "ab" * 29),
                           ("fFeEdDcCbBaA" * 5, "aAbBcCdDeEfF" * 5), ("fFEeAa" * 10, "AaEefF"),
                           ("a" * 29 + "bB" + "A" * 29, "a" * 29 + "bB" + "A" * 29)):
            self.check(one, other)

    def test_falling_places(self):
        # Each place is ahead of all places that are gone to before, in Python's order and in that of rows.
        row = "".join(sign + place + swapped(place) + swapped(sign) for place in ("f", "d", "b", "a") for sign in "fbA")
        self.check(row, "".join(sign + place + swapped(place) + swapped(sign)
                                for sign in "Abf" for place in ("a", "b", "d", "f")))

    def test_none_where_the_rows_are_not_the_same(self):
        for one, other in NOT_SAME:
            self.assertIsNone(chain(one, other))
            self.assertIsNone(chain(other, one))
        source = source_of(5)
        for number in range(50):
            one, other = some_row(source), some_row(source)
            if shape_of(one) != shape_of(other):
                self.assertIsNone(chain(one, other))

    def test_each_told_list_is_the_askers_own(self):
        told = chain("aAbB", "bBaA")
        twin = list(told)
        told.clear()
        self.assertEqual(chain("aAbB", "bBaA"), twin)

    def test_arguments_by_name(self):
        told = chain(other="abBAcC", one="cCabBA")
        self.assertEqual(led_on("cCabBA", told), "abBAcC")
        self.assertTrue(is_chain(thing=[("past", 0, 1, 2)], one="cCabBA", other="abBAcC"))
        self.assertFalse(is_chain(thing=[("past", 0, 1, 2)], other="cCabBA", one="abBAcC"))


class IsChain(unittest.TestCase):

    def leads(self, one, other, steps):
        for step in steps:
            one = expected(one, step)
            if one is None:
                return False
        return one == other

    def test_by_hand(self):
        more, less, past = ("more", 0, 1), ("less", 0, 1), ("past", 0, 1, 1)
        for one, other, steps, right in (
                ("a", "a", [], True), ("", "", [], True), ("a", "b", [], False), ("a", "aAa", [], False),
                ("a", "aAa", [more], True), ("aAa", "a", [less], True), ("a", "aAa", [less], False),
                ("aAbB", "bBaA", [past], True), ("aAbB", "aAbB", [past, past], True), ("aAbB", "aAbB", [past], False),
                ("a", "a", [more, less], True), ("a", "a", [more, more, less, less], True), ("a", "a", [less, more], False),
                ("a", "a", [more] * 1999 + [less] * 1999, True), ("a", "a", [more] * 2000 + [less] * 2000, False)):
            self.assertIs(is_chain(one, other, steps), right)

    def test_a_chain_with_a_step_left_out_put_in_or_changed(self):
        for one, other in (("abBcCA", "acCbBA"), ("aAbBcC", "cCbBaA"), ("bBaAb", "aAb")):
            told = chain(one, other)
            self.assertIs(is_chain(one, other, told), True)
            changed = 0
            for at, step in itertools.product(range(len(told)), told + [("more", 0, 1), ("less", 0, 1), None, ()]):
                for steps in (told[:at] + told[at + 1:], told[:at] + [step] + told[at:],
                              told[:at] + [step] + told[at + 1:], told[:at]):
                    right = None not in steps and () not in steps and self.leads(one, other, steps)
                    self.assertIs(is_chain(one, other, steps), right)
                    changed += not right
            self.assertGreater(changed, 10)

    def test_what_is_no_list(self):
        for thing in ODD_THINGS:
            self.assertIs(is_chain("a", "a", thing), isinstance(thing, list) and thing == [])
        for thing in ((), (("more", 0, 1), ("less", 0, 1)), {}, "", None, {("more", 0, 1)}, iter([])):
            self.assertIs(is_chain("a", "a", thing), False)
        self.assertIs(is_chain("a", "aAa", (("more", 0, 1),)), False)

    def test_lists_of_what_are_no_steps(self):
        for thing in ODD_THINGS + (["more", 0, 1], ("more", 0), ("more", 0, True), ("most", 0, 1), [], [("more", 0, 1)]):
            self.assertIs(is_chain("a", "a", [thing]), False)
            self.assertIs(is_chain("a", "aAa", [("more", 0, 1), thing]), False)
        around = []
        around.append(around)
        self.assertIs(is_chain("a", "a", around), False)

    def test_the_list_stays(self):
        steps = [("more", 0, 1), Hostile()]
        self.assertIs(is_chain("a", "a", steps), False)
        self.assertEqual(steps[0], ("more", 0, 1))
        self.assertEqual(len(steps), 2)


class NoRows(unittest.TestCase):

    def test_each_function_refuses_what_is_no_row(self):
        asked = (chain, lambda one, other: is_chain(one, other, []), lambda one, other: is_chain(one, other, None))
        for thing in NO_ROWS:
            for ask in asked:
                for pair in ((thing, "a"), ("a", thing), (thing, "aAg"), (thing, thing)):
                    with self.assertRaises(NoRow) as caught:
                        ask(*pair)
                    self.assertIs(caught.exception.text, thing)
                with self.assertRaises(NoRow) as caught:
                    ask("xyz", thing)
                self.assertEqual(caught.exception.text, "xyz")


class Whole(unittest.TestCase):
    """Of point [4]: never is there a chain and a world in which the rows do unlike."""

    def test_never_a_chain_and_a_world(self):
        source = source_of(6)
        words = [("more", at, many) for at in range(4) for many in (1, 2)]
        words += [("less", at, many) for at in range(4) for many in (1, 2)]
        words += [("past", at, many, others) for at in range(3) for many in (1, 2) for others in (1, 2)]
        found = 0
        for number in range(1500):
            one = some_row(source, 0, 5)
            at, steps = one, []
            for place in range(source.randint(1, 6)):
                step = source.choice(words)
                if expected(at, step) is not None:
                    at = expected(at, step)
                    steps.append(step)
            other = at if source.random() < 0.7 else some_row(source, 0, 5)
            if len(other) <= 60 and is_chain(one, other, steps):
                found += 1
                self.assertTrue(same(one, other))
                world = some_world(source)[0]
                self.assertFalse(any(tells_unlike(one, other, (world, thing)) for thing in range(len(world))))
        self.assertGreater(found, 300)

    def test_no_chain_where_a_world_tells_them_unlike(self):
        for one, other in NOT_SAME:
            for first, second in SAME:
                self.assertFalse(is_chain(one, other, chain(first, second)))


if __name__ == "__main__":
    unittest.main()
