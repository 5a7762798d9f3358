"""Point [7]: worlds made, added to, laid, lifted, told, alike and copied."""

import itertools
import random
import unittest

from undotrees.errors import Bare, Full, NoDeed, NoNumber, NoThing, Taken
from undotrees.worlds import World

NO_DEEDS = ("", "A", "F", "g", "ab", "aa", " a", "a ", "a\n", "abcdef", None, True, 0, 1, [], ["a"], ("a",), {"a": 1},
            b"a", object())

NO_THINGS = (-1, -3, 3, 4, 61, 10 ** 60, True, False, None, "", "0", "a", 0.0, 1.0, [], [0], (0,), {}, b"0", object())

NO_SIZES = (-1, 62, 63, 10 ** 60, True, False, None, "", "3", 0.0, 3.0, [], [3], (3,), {}, {"a": 1}, b"3", object())


class Hostile:
    """No deed, thing or number: all that may be asked of it fails."""

    def __eq__(self, other):
        raise RuntimeError("compared")

    __lt__ = __le__ = __gt__ = __ge__ = __int__ = __index__ = __eq__
    __hash__ = None


def world_of(things, *laid):
    world = World(things)
    for deed, one, other in laid:
        world.lay(deed, one, other)
    return world


class Interface(unittest.TestCase):

    def test_each_method_is_defined_in_the_class_itself(self):
        for name in ("add", "lift", "lay", "laid", "copy", "led", "pairs", "same", "__len__", "__eq__"):
            self.assertIn(name, vars(World))


class Made(unittest.TestCase):

    def test_with_each_number_of_things(self):
        for things in range(62):
            world = World(things)
            self.assertEqual(len(world), things)
            self.assertEqual(world.laid(), [])

    def test_with_none_where_none_is_told(self):
        self.assertEqual(len(World()), 0)
        self.assertEqual(World(), World(0))

    def test_what_is_no_number_of_things(self):
        for things in (*NO_SIZES, Hostile()):
            with self.assertRaises(NoNumber) as caught:
                World(things)
            self.assertIs(caught.exception.number, things)

    def test_by_name(self):
        self.assertEqual(len(World(things=4)), 4)
        with self.assertRaises(NoNumber):
            World(things=62)


class Added(unittest.TestCase):

    def test_told_is_its_number(self):
        world = World()
        for number in range(61):
            self.assertEqual(world.add(), number)
            self.assertEqual(len(world), number + 1)

    def test_full_of_sixty_one(self):
        world = world_of(61, ("a", 60, 0))
        for time in range(2):
            with self.assertRaises(Full) as caught:
                world.add()
            self.assertEqual(caught.exception.size, 62)
            self.assertEqual(len(world), 61)
            self.assertEqual(world.laid(), [("a", 60, 0)])

    def test_up_to_sixty_one(self):
        world = World(60)
        self.assertEqual(world.add(), 60)
        with self.assertRaises(Full):
            world.add()

    def test_what_is_added_can_be_led(self):
        world = world_of(1, ("b", 0, 0))
        self.assertEqual(world.add(), 1)
        self.assertEqual(world.laid(), [("b", 0, 0)])
        world.lay("a", 0, 1)
        world.lay("b", 1, 1)
        self.assertEqual(world.laid(), [("a", 0, 1), ("b", 0, 0), ("b", 1, 1)])


class LaidAndLifted(unittest.TestCase):

    def test_lay_tells_none_and_lift_the_thing(self):
        world = World(3)
        self.assertIsNone(world.lay("a", 0, 2))
        self.assertEqual(world.laid(), [("a", 0, 2)])
        self.assertEqual(world.lift("a", 0), 2)
        self.assertEqual(world.laid(), [])

    def test_a_thing_to_itself(self):
        world = World(1)
        world.lay("f", 0, 0)
        self.assertEqual(world.laid(), [("f", 0, 0)])
        self.assertEqual(world.lift("f", 0), 0)
        self.assertEqual(world.laid(), [])
        world.lay("f", 0, 0)

    def test_lifted_it_can_be_laid_elsewhere(self):
        world = world_of(3, ("a", 0, 1))
        world.lift("a", 0)
        world.lay("a", 0, 2)
        world.lay("a", 2, 1)
        self.assertEqual(world.laid(), [("a", 0, 2), ("a", 2, 1)])

    def test_all_deeds_between_two_things(self):
        world = World(2)
        for deed in "fbdaec":
            world.lay(deed, 1, 0)
        self.assertEqual(world.laid(), [(deed, 1, 0) for deed in "abcdef"])
        self.assertEqual(world.lift("d", 1), 0)
        self.assertEqual(world.laid(), [(deed, 1, 0) for deed in "abcef"])

    def test_sorted_as_python_sorts_tuples(self):
        world = World(12)
        for deed, one, other in (("b", 10, 0), ("a", 11, 1), ("b", 2, 3), ("a", 2, 11), ("f", 0, 0), ("a", 10, 2)):
            world.lay(deed, one, other)
        self.assertEqual(world.laid(), [("a", 2, 11), ("a", 10, 2), ("a", 11, 1), ("b", 2, 3), ("b", 10, 0), ("f", 0, 0)])

    def test_all_that_can_be_laid(self):
        world = World(61)
        for deed in "abcdef":
            for one in range(61):
                world.lay(deed, one, (one + 7) % 61)
        self.assertEqual(world.laid(), [(deed, one, (one + 7) % 61) for deed in "abcdef" for one in range(61)])

    def test_many_deeds_beside_a_plain_list(self):
        source = random.Random(7)
        world, kept = World(4), set()
        for time in range(3000):
            deed, one, other = source.choice("abcdef"), source.randrange(4), source.randrange(4)
            led = {two for name, thing, two in kept if name == deed and thing == one}
            if source.random() < 0.5:
                if led:
                    self.assertEqual({world.lift(deed, one)}, led)
                    kept = {row for row in kept if row[:2] != (deed, one)}
                else:
                    self.assertRaises(Bare, world.lift, deed, one)
            elif led or any(name == deed and two == other for name, thing, two in kept):
                self.assertRaises(Taken, world.lay, deed, one, other)
            else:
                self.assertIsNone(world.lay(deed, one, other))
                kept.add((deed, one, other))
            self.assertEqual(world.laid(), sorted(kept))

    def test_by_name(self):
        world = World(2)
        self.assertIsNone(world.lay(deed="a", one=0, other=1))
        self.assertIsNone(world.lay(other=0, one=0, deed="b"))
        self.assertEqual(world.laid(), [("a", 0, 1), ("b", 0, 0)])
        self.assertEqual(world.lift(deed="a", thing=0), 1)
        self.assertEqual(world.lift(thing=0, deed="b"), 0)


class Refused(unittest.TestCase):

    def setUp(self):
        self.world = world_of(3, ("a", 0, 1), ("b", 2, 2))

    def refused(self, kind, fields, method, *things):
        with self.assertRaises(kind) as caught:
            method(*things)
        self.assertEqual(sorted(vars(caught.exception)), sorted(fields))
        for field, value in fields.items():
            self.assertIs(getattr(caught.exception, field), value)
        self.assertEqual(len(self.world), 3)
        self.assertEqual(self.world.laid(), [("a", 0, 1), ("b", 2, 2)])
        self.assertEqual(self.world, world_of(3, ("b", 2, 2), ("a", 0, 1)))

    def test_no_deed_ahead_of_all_else(self):
        for deed in (*NO_DEEDS, Hostile()):
            self.refused(NoDeed, {"deed": deed}, self.world.lay, deed, 0, 0)
            self.refused(NoDeed, {"deed": deed}, self.world.lay, deed, 3, None)
            self.refused(NoDeed, {"deed": deed}, self.world.lift, deed, 0)
            self.refused(NoDeed, {"deed": deed}, self.world.lift, deed, -1)

    def test_no_thing_the_first_one_first(self):
        for thing in (*NO_THINGS, Hostile()):
            for deed in "abf":
                self.refused(NoThing, {"thing": thing}, self.world.lay, deed, thing, 1)
                self.refused(NoThing, {"thing": thing}, self.world.lay, deed, thing, 99)
                self.refused(NoThing, {"thing": thing}, self.world.lay, deed, 0, thing)
                self.refused(NoThing, {"thing": thing}, self.world.lay, deed, 2, thing)
                self.refused(NoThing, {"thing": thing}, self.world.lift, deed, thing)

    def test_no_thing_of_a_world_without_things(self):
        with self.assertRaises(NoThing) as caught:
            World().lay("a", 0, 0)
        self.assertEqual(caught.exception.thing, 0)
        with self.assertRaises(NoThing):
            World().lift("a", 0)

    def test_taken_the_thing_that_the_deed_leads_already(self):
        self.refused(Taken, {"deed": "a", "thing": 0}, self.world.lay, "a", 0, 2)
        self.refused(Taken, {"deed": "a", "thing": 0}, self.world.lay, "a", 0, 0)
        self.refused(Taken, {"deed": "b", "thing": 2}, self.world.lay, "b", 2, 0)

    def test_taken_the_thing_to_which_the_deed_leads_already(self):
        self.refused(Taken, {"deed": "a", "thing": 1}, self.world.lay, "a", 1, 1)
        self.refused(Taken, {"deed": "a", "thing": 1}, self.world.lay, "a", 2, 1)
        self.refused(Taken, {"deed": "b", "thing": 2}, self.world.lay, "b", 0, 2)

    def test_taken_on_both_sides_the_first_thing(self):
        self.refused(Taken, {"deed": "a", "thing": 0}, self.world.lay, "a", 0, 1)
        world = world_of(4, ("c", 0, 1), ("c", 2, 3))
        with self.assertRaises(Taken) as caught:
            world.lay("c", 2, 1)
        self.assertEqual((caught.exception.deed, caught.exception.thing), ("c", 2))

    def test_bare_where_the_deed_does_not_lead_the_thing(self):
        self.refused(Bare, {"deed": "a", "thing": 1}, self.world.lift, "a", 1)
        self.refused(Bare, {"deed": "a", "thing": 2}, self.world.lift, "a", 2)
        self.refused(Bare, {"deed": "b", "thing": 0}, self.world.lift, "b", 0)
        self.refused(Bare, {"deed": "f", "thing": 0}, self.world.lift, "f", 0)

    def test_lifted_twice(self):
        self.world.lift("a", 0)
        with self.assertRaises(Bare):
            self.world.lift("a", 0)


class Alike(unittest.TestCase):

    def test_as_many_things_and_the_same_laid(self):
        self.assertTrue(World(3) == World(3))
        self.assertFalse(World(3) != World(3))
        one = world_of(3, ("a", 0, 1), ("a", 1, 2), ("b", 0, 0))
        other = world_of(3, ("b", 0, 0), ("a", 1, 2), ("a", 0, 1))
        self.assertTrue(one == other)
        other.lift("a", 1)
        self.assertFalse(one == other)
        self.assertTrue(one != other)
        other.lay("a", 1, 2)
        self.assertTrue(one == other)

    def test_unlike(self):
        worlds = [World(), World(1), World(2), World(61), world_of(1, ("a", 0, 0)), world_of(1, ("b", 0, 0)),
                  world_of(2, ("a", 0, 0)), world_of(2, ("a", 0, 1)), world_of(2, ("a", 1, 0)),
                  world_of(2, ("a", 0, 1), ("a", 1, 0)), world_of(2, ("a", 0, 1), ("b", 1, 0))]
        for one, other in itertools.combinations(worlds, 2):
            self.assertFalse(one == other)
            self.assertTrue(one != other)
        for world in worlds:
            self.assertTrue(world == world)

    def test_like_nothing_else(self):
        class Any:
            def __eq__(self, other):
                return True

        world = World()
        for thing in (None, 0, False, True, "", [], (), {}, [[]], "World", object(), World, Any(), Hostile()):
            self.assertIs(world == thing, False)
            self.assertIs(world != thing, True)

    def test_told_as_a_truth(self):
        self.assertIs(World(2) == World(2), True)
        self.assertIs(World(2) == World(3), False)


class Copied(unittest.TestCase):

    def test_another_world_alike(self):
        for world in (World(), World(61), world_of(3, ("a", 0, 1), ("f", 2, 2), ("a", 2, 0))):
            twin = world.copy()
            self.assertIsInstance(twin, World)
            self.assertIsNot(twin, world)
            self.assertTrue(twin == world)
            self.assertEqual(twin.laid(), world.laid())

    def test_each_goes_its_own_way(self):
        world = world_of(2, ("a", 0, 1))
        twin = world.copy()
        twin.lay("b", 0, 0)
        twin.lift("a", 0)
        twin.add()
        self.assertEqual((len(world), world.laid()), (2, [("a", 0, 1)]))
        self.assertEqual((len(twin), twin.laid()), (3, [("b", 0, 0)]))
        world.lay("a", 1, 0)
        world.lay("c", 1, 1)
        self.assertEqual((len(twin), twin.laid()), (3, [("b", 0, 0)]))
        self.assertEqual(twin.pairs("A"), [])
        self.assertEqual(world.pairs("A"), [(0, 1), (1, 0)])

    def test_worlds_made_alike_go_their_own_ways(self):
        one, other = World(), World()
        one.add()
        self.assertEqual(len(other), 0)
        self.assertEqual(len(World()), 0)


class TheAskersOwn(unittest.TestCase):

    def test_a_told_list_that_is_changed_changes_nothing(self):
        world = world_of(2, ("a", 0, 1), ("b", 1, 1))
        first = world.laid()
        first.append(("c", 0, 0))
        del first[0]
        second = world.laid()
        self.assertEqual(second, [("a", 0, 1), ("b", 1, 1)])
        self.assertIsNot(second, world.laid())
        self.assertIsInstance(second, list)
        self.assertEqual([len(row) for row in second if isinstance(row, tuple)], [3, 3])

    def test_a_told_list_stays_as_it_was(self):
        world = world_of(2, ("a", 0, 1))
        told = world.laid()
        world.lift("a", 0)
        self.assertEqual(told, [("a", 0, 1)])


if __name__ == "__main__":
    unittest.main()
