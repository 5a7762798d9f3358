"""Point [8]: a row done from a thing, all pairs, and whether two rows do the same in a world."""

import itertools
import random
import unittest

from undotrees.errors import NoRow, NoThing
from undotrees.rows import contrary, plain
from undotrees.worlds import World

NO_ROWS = ("g", "a b", "a\n", "a" * 61, None, True, 0, [], ["a"], ("a",), {}, b"a", object())

NO_THINGS = (-1, -4, 4, 61, 10 ** 60, True, False, None, "", "0", "a", 0.0, 1.0, [], [0], (0,), {}, b"0", object())


def world_of(things, *laid):
    world = World(things)
    for deed, one, other in laid:
        world.lay(deed, one, other)
    return world


def some_world(source):
    """A world with some deeds laid, which are told beside it as a list of its own."""
    things = source.randint(0, 6)
    world, laid = World(things), []
    for deed in "abcdef"[:source.randint(1, 6)]:
        many = source.randint(0, things)
        ends = source.sample(range(things), many)
        for one, other in zip(source.sample(range(things), many), ends):
            world.lay(deed, one, other)
            laid.append((deed, one, other))
    return world, laid


def done(laid, row, thing):
    """Where a row leads, by looking through all that is laid for each sign."""
    for sign in row:
        if sign.islower():
            ends = [other for deed, one, other in laid if (deed, one) == (sign, thing)]
        else:
            ends = [one for deed, one, other in laid if (deed.upper(), other) == (sign, thing)]
        if not ends:
            return None
        thing = ends[0]
    return thing


def some_row(source):
    return "".join(source.choice("aAbBcCdDeEfF"[:2 * source.randint(1, 6)]) for place in range(source.randint(0, 8)))


class Led(unittest.TestCase):

    def setUp(self):
        self.world = world_of(4, ("a", 0, 1), ("a", 1, 2), ("b", 2, 0), ("c", 3, 3))

    def test_deeds_lead_on_and_undoings_back(self):
        for row, thing, end in (("a", 0, 1), ("A", 1, 0), ("aa", 0, 2), ("AA", 2, 0), ("aab", 0, 0), ("B", 0, 2),
                                ("BA", 0, 1), ("aA", 0, 0), ("Aa", 2, 2), ("c", 3, 3), ("C", 3, 3), ("cCccC", 3, 3),
                                ("aabaab", 0, 0), ("BAA", 0, 0)):
            with self.subTest(row=row, thing=thing):
                self.assertEqual(self.world.led(row, thing), end)

    def test_the_first_sign_first(self):
        self.assertEqual(self.world.led("ab", 1), 0)
        self.assertIsNone(self.world.led("ba", 1))

    def test_rows_that_can_not_be_done(self):
        for row, thing in (("a", 2), ("A", 0), ("aaa", 0), ("b", 0), ("Aa", 0), ("aA", 2), ("c", 0), ("a", 3),
                           ("f", 0), ("F", 3), ("aabB" + "c", 0), ("aD", 0), ("Da", 0)):
            with self.subTest(row=row, thing=thing):
                self.assertIsNone(self.world.led(row, thing))

    def test_the_row_without_signs(self):
        for thing in range(4):
            self.assertEqual(self.world.led("", thing), thing)

    def test_sixty_signs(self):
        self.assertEqual(self.world.led("aab" * 20, 0), 0)
        self.assertEqual(self.world.led("aA" * 30, 0), 0)
        self.assertIsNone(self.world.led("aab" * 19 + "aaa", 0))

    def test_what_is_no_row_ahead_of_what_is_no_thing(self):
        for row in NO_ROWS:
            for thing in (0, 4, None):
                with self.assertRaises(NoRow) as caught:
                    self.world.led(row, thing)
                self.assertIs(caught.exception.text, row)

    def test_what_is_no_thing(self):
        for thing in NO_THINGS:
            for row in ("", "a", "fF"):
                with self.assertRaises(NoThing) as caught:
                    self.world.led(row, thing)
                self.assertIs(caught.exception.thing, thing)
        with self.assertRaises(NoThing):
            World().led("", 0)

    def test_nothing_is_changed(self):
        twin = self.world.copy()
        self.world.led("aab", 0)
        self.world.led("f", 0)
        self.world.pairs("fA")
        self.world.same("aA", "f")
        self.assertEqual(self.world, twin)

    def test_lifted_it_leads_no_more(self):
        self.world.lift("a", 1)
        self.assertIsNone(self.world.led("aa", 0))
        self.assertIsNone(self.world.led("A", 2))
        self.assertEqual(self.world.led("a", 0), 1)

    def test_by_name(self):
        self.assertEqual(self.world.led(row="aa", thing=0), 2)
        self.assertIsNone(self.world.led(thing=2, row="a"))


class Pairs(unittest.TestCase):

    def setUp(self):
        self.world = world_of(4, ("a", 2, 0), ("a", 0, 3), ("b", 1, 1))

    def test_some(self):
        for row, pairs in (("a", [(0, 3), (2, 0)]), ("A", [(0, 2), (3, 0)]), ("aa", [(2, 3)]), ("AA", [(3, 2)]),
                           ("aA", [(0, 0), (2, 2)]), ("Aa", [(0, 0), (3, 3)]), ("b", [(1, 1)]), ("ab", []),
                           ("f", []), ("", [(0, 0), (1, 1), (2, 2), (3, 3)])):
            with self.subTest(row):
                self.assertEqual(self.world.pairs(row), pairs)

    def test_a_world_without_things(self):
        self.assertEqual(World().pairs(""), [])
        self.assertEqual(World().pairs("aA"), [])

    def test_what_is_no_row(self):
        for row in NO_ROWS:
            with self.assertRaises(NoRow) as caught:
                self.world.pairs(row)
            self.assertIs(caught.exception.text, row)
            with self.assertRaises(NoRow):
                World().pairs(row)

    def test_a_told_list_that_is_changed_changes_nothing(self):
        told = self.world.pairs("a")
        told.clear()
        self.assertEqual(self.world.pairs("a"), [(0, 3), (2, 0)])
        self.assertIsNot(self.world.pairs("a"), self.world.pairs("a"))
        self.assertIsInstance(self.world.pairs("a"), list)
        self.assertIsInstance(self.world.pairs("a")[0], tuple)

    def test_by_name(self):
        self.assertEqual(self.world.pairs(row="aa"), [(2, 3)])


class Same(unittest.TestCase):

    def setUp(self):
        self.world = world_of(3, ("a", 0, 1), ("b", 0, 1), ("c", 1, 0), ("d", 0, 0), ("d", 1, 2))

    def test_same(self):
        for one, other in (("", ""), ("a", "b"), ("A", "c"), ("a", "aAa"), ("aA", "bB"), ("aA", "bc"), ("e", "f"),
                           ("e", "aa"), ("aAcC", "cCaA")):
            with self.subTest(one=one, other=other):
                self.assertIs(self.world.same(one, other), True)
                self.assertIs(self.world.same(other, one), True)

    def test_not_same(self):
        for one, other in (("", "a"), ("", "aA"), ("a", "A"), ("a", "d"), ("aA", "Aa"), ("a", "e"), ("d", "ad"), ("", "e")):
            with self.subTest(one=one, other=other):
                self.assertIs(self.world.same(one, other), False)
                self.assertIs(self.world.same(other, one), False)

    def test_all_do_the_same_where_there_is_no_thing(self):
        self.assertIs(World().same("", "a"), True)
        self.assertIs(World().same("abA", "f"), True)

    def test_what_is_no_row_the_first_one_first(self):
        for row in NO_ROWS:
            for world in (self.world, World()):
                for pair in ((row, "a"), ("a", row), (row, "x")):
                    with self.assertRaises(NoRow) as caught:
                        world.same(*pair)
                    self.assertIs(caught.exception.text, row)

    def test_by_name(self):
        self.assertIs(self.world.same(one="a", other="b"), True)
        self.assertIs(self.world.same(other="a", one="d"), False)


class InManyWorlds(unittest.TestCase):

    def setUp(self):
        self.source = random.Random(8)

    def test_as_what_is_laid_leads(self):
        for time in range(300):
            world, laid = some_world(self.source)
            rows = [some_row(self.source) for number in range(6)]
            told = {}
            for row in rows:
                ends = [done(laid, row, thing) for thing in range(len(world))]
                self.assertEqual([world.led(row, thing) for thing in range(len(world))], ends)
                told[row] = [(thing, end) for thing, end in enumerate(ends) if end is not None]
                self.assertEqual(world.pairs(row), told[row])
            for one, other in itertools.product(rows, repeat=2):
                self.assertIs(world.same(one, other), told[one] == told[other])

    def test_where_a_row_leads_a_thing_its_contrary_leads_back(self):
        led = 0
        for time in range(300):
            world, laid = some_world(self.source)
            for row in [some_row(self.source) for number in range(6)]:
                for thing, other in world.pairs(row):
                    led += bool(row)
                    self.assertEqual(world.led(contrary(row), other), thing)
                turned = sorted((other, thing) for thing, other in world.pairs(row))
                self.assertEqual(world.pairs(contrary(row)), turned)
                self.assertIs(world.same(row, row + contrary(row) + row), True)
        self.assertGreater(led, 100)

    def test_a_row_made_plain_can_be_done_wherever_the_row_can_and_comes_to_the_same_thing(self):
        for time in range(300):
            world, laid = some_world(self.source)
            for row in [some_row(self.source) for number in range(6)]:
                for thing, other in world.pairs(row):
                    self.assertEqual(world.led(plain(row), thing), other)

    def test_no_two_things_are_led_to_one(self):
        for time in range(100):
            world, laid = some_world(self.source)
            ends = [other for thing, other in world.pairs(some_row(self.source))]
            self.assertEqual(len(ends), len(set(ends)))


if __name__ == "__main__":
    unittest.main()
