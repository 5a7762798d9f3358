"""Point [23]: logs, rows done and taken back, marks, and short rows."""

import unittest

from samples import (NO_ROWS, ODD_THINGS, Hostile, done, places_of, some_row, some_walking, some_world, source_of,
                     swapped, taken_out)
from undotrees.errors import Full, NoBack, NoMark, NoRow, NoThing
from undotrees.logs import Log
from undotrees.shortest import shortest_at
from undotrees.walks import Walk, walk_of
from undotrees.worlds import World

NO_NAMES = ("", "A", "aB", "abcdefghi", "a b", " a", "a ", "a1", "1", "-", "a-b", "a\n", "\n", "a\t", "_", "a_", None, True,
            False, 0, 1, 1.5, b"a", [], ["a"], (), ("a",), {}, {"a": 1}, {"a"}, object(), len, Hostile())

MARKS = ("a", "b", "z", "mark", "abcdefgh")


class Retold:
    """A log told anew: each sign stands with whether it is open, and each mark with the open signs it was set for."""

    def __init__(self):
        self.signs, self.set = [], {}

    def row(self):
        return "".join(sign for sign, number in self.signs)

    def stack(self):
        return [number for number, (sign, still) in enumerate(self.signs) if still]

    def copy(self):
        twin = Retold()
        twin.signs, twin.set = [list(each) for each in self.signs], dict(self.set)
        return twin

    def do(self, row):
        self.signs += [[sign, True] for sign in row]

    def back(self, many):
        for turn in range(many):
            last = self.stack()[-1]
            self.signs[last][1] = False
            self.signs.append([swapped(self.signs[last][0]), False])
            self.set = {name: stack for name, stack in self.set.items() if last not in stack}

    def back_to(self, name):
        many = len([number for number in self.stack() if number not in self.set[name]])
        self.back(many)
        return many

    def full(self):
        row = self.row()
        if len(row) > 4000:
            return len(row)
        places = len(places_of(row))
        return places if places > 61 else None


def all_told(log):
    return log.row(), log.standing(), log.marks(), log.walk(), log.short(), len(log)


def check(test, log, retold):
    row = retold.row()
    places = places_of(row)
    walk = Walk(places, taken_out(row))
    test.assertEqual((log.row(), len(log)), (row, len(row)))
    test.assertEqual(log.standing(), "".join(row[number] for number in retold.stack()))
    test.assertEqual(log.marks(), sorted(retold.set))
    test.assertEqual(log.walk(), walk)
    test.assertEqual(log.short(), shortest_at(walk))


class ByHand(unittest.TestCase):

    def test_a_new_log(self):
        log = Log()
        self.assertEqual(all_told(log), ("", "", [], Walk(), "", 0))
        self.assertIs(bool(log), False)
        self.assertEqual(log, Log())

    def test_done_and_taken_back(self):
        log = Log()
        self.assertIs(type(log.do("ab")), int)
        self.assertEqual(log.do("c"), 3)
        self.assertEqual((log.row(), log.standing()), ("abc", "abc"))
        self.assertEqual(log.back(2), 5)
        self.assertEqual((log.row(), log.standing()), ("abcCB", "a"))
        self.assertEqual(log.do("AaE"), 8)
        self.assertEqual((log.row(), log.standing()), ("abcCBAaE", "aAaE"))
        self.assertEqual(log.back(), 9)
        self.assertEqual((log.row(), log.standing()), ("abcCBAaEe", "aAa"))
        self.assertEqual(log.back(3), 12)
        self.assertEqual((log.row(), log.standing()), ("abcCBAaEeAaA", ""))
        self.assertEqual(str(log.walk()), "- a ab aE abc : -")
        self.assertEqual(log.short(), "abcCBEeA")
        self.assertEqual(log.do(""), 12)

    def test_signs_that_undo_others_are_open_too(self):
        log = Log()
        log.do("aA")
        self.assertEqual(log.standing(), "aA")
        self.assertEqual(log.back(), 3)
        self.assertEqual((log.row(), log.standing(), log.walk().end()), ("aAa", "a", "a"))
        log.back()
        self.assertEqual((log.row(), log.standing()), ("aAaA", ""))

    def test_marks(self):
        log = Log()
        self.assertIsNone(log.mark("begin"))
        log.do("ab")
        log.mark("two")
        log.mark("again")
        log.do("cd")
        log.mark("four")
        self.assertEqual(log.marks(), ["again", "begin", "four", "two"])
        self.assertEqual(log.back_to("two"), 2)
        self.assertEqual((log.row(), log.standing()), ("abcdDC", "ab"))
        self.assertEqual(log.marks(), ["again", "begin", "two"])
        self.assertEqual(log.back_to("two"), 0)
        self.assertEqual(log.back_to("again"), 0)
        log.do("e")
        self.assertEqual(log.back(1), 8)
        self.assertEqual(log.marks(), ["again", "begin", "two"])
        log.back()
        self.assertEqual(log.marks(), ["begin"])
        log.do("b")
        self.assertEqual(log.marks(), ["begin"])
        self.assertEqual(log.back_to("begin"), 2)
        self.assertEqual((log.row(), log.standing(), log.marks()), ("abcdDCeEBbBA", "", ["begin"]))

    def test_a_mark_set_anew(self):
        log = Log()
        log.do("ab")
        log.mark("x")
        log.do("c")
        log.mark("x")
        log.do("d")
        self.assertEqual(log.back_to("x"), 1)
        self.assertEqual((log.standing(), log.marks()), ("abc", ["x"]))
        log.back()
        self.assertEqual(log.marks(), [])
        log.mark("x")
        log.back()
        self.assertEqual(log.marks(), [])
        log.mark("x")
        log.do("f")
        log.mark("y")
        log.do("f")
        log.mark("x")
        self.assertEqual(log.back_to("y"), 1)
        self.assertEqual(log.marks(), ["y"])

    def test_arguments_by_name(self):
        log = Log()
        self.assertEqual(log.do(row="ab"), 2)
        self.assertIsNone(log.mark(name="x"))
        log.do(row="c")
        self.assertEqual(log.back_to(name="x"), 1)
        self.assertEqual(log.back(many=1), 5)
        self.assertEqual(log.led(world=walk_of("abc").world(), thing=0), 1)


class Some(unittest.TestCase):

    def test_as_told_anew(self):
        source = source_of(1)
        fulls = marked = 0
        for number in range(40):
            log, retold = Log(), Retold()
            for turn in range(30):
                ahead = retold.copy()
                word = source.choice(("do", "do", "do", "back", "back", "mark", "to"))
                if word == "do":
                    row = some_row(source, 0, source.choice((2, 6, 60)))
                    retold.do(row)
                    if retold.full():
                        with self.assertRaises(Full) as caught:
                            log.do(row)
                        self.assertEqual(caught.exception.size, retold.full())
                        retold = ahead
                        fulls += 1
                    else:
                        self.assertEqual(log.do(row), len(retold.signs))
                elif word == "mark":
                    name = source.choice(MARKS)
                    retold.set[name] = retold.stack()
                    self.assertIsNone(log.mark(name))
                elif word == "to" and retold.set:
                    name = source.choice(sorted(retold.set))
                    self.assertEqual(log.back_to(name), retold.back_to(name))
                    marked += 1
                elif word == "back" and retold.stack():
                    many = source.randint(1, min(12, len(retold.stack())))
                    retold.back(many)
                    told = log.back() if many == 1 else log.back(many)
                    self.assertEqual(told, len(retold.signs))
                check(self, log, retold)
        self.assertGreater(fulls, 20)
        self.assertGreater(marked, 50)

    def test_the_short_row_does_what_the_log_did(self):
        source = source_of(2)
        led = {True: 0, False: 0}
        for number in range(80):
            log = Log()
            for turn in range(source.randint(1, 6)):
                log.do(some_row(source, 0, 4))
                if log.standing() and source.random() < 0.6:
                    log.back(source.randint(1, len(log.standing())))
            short = log.short()
            self.assertLessEqual(len(short), len(log))
            self.assertEqual(len(short), 2 * (len(log.walk()) - 1) - len(log.walk().end()))
            for turn in range(10):
                world, laid = some_world(source)
                for thing in range(len(world)):
                    told = log.led(world, thing)
                    self.assertEqual(told, done(laid, log.row(), thing))
                    self.assertEqual(told, done(laid, short, thing))
                    led[told is None] += 1
                self.assertEqual(world.laid(), sorted(laid))
        self.assertGreater(min(led.values()), 100)

    def test_a_short_row_of_more_than_sixty_signs(self):
        log = Log()
        log.do("ab" * 30)
        log.back(60)
        self.assertEqual((len(log), log.standing(), len(log.walk())), (120, "", 61))
        self.assertEqual(log.short(), "ab" * 30 + "BA" * 30)
        world = walk_of("ab" * 30).world()
        self.assertEqual([log.led(world, thing) for thing in (0, 1, 60)], [0, None, None])


class Refused(unittest.TestCase):

    def setUp(self):
        self.log = Log()
        self.log.do("abc")
        self.log.mark("x")
        self.log.do("d")
        self.log.mark("lost")
        self.log.back()
        self.ahead = all_told(self.log)

    def refused(self, error, ask):
        with self.assertRaises(error) as caught:
            ask()
        self.assertEqual(all_told(self.log), self.ahead)
        return caught.exception

    def test_no_row(self):
        for thing in NO_ROWS:
            self.assertIs(self.refused(NoRow, lambda: self.log.do(thing)).text, thing)

    def test_no_back(self):
        for thing in (0, 4, -1, 10 ** 60, True, False, None, "1", "", 1.5, [], (), {}, b"1", object(), Hostile()):
            self.assertIs(self.refused(NoBack, lambda: self.log.back(thing)).many, thing)
        self.assertEqual(self.log.back(3), 8)
        self.ahead = all_told(self.log)
        for thing in (0, 1, True):
            self.assertIs(self.refused(NoBack, lambda: self.log.back(thing)).many, thing)
        self.assertEqual(self.refused(NoBack, self.log.back).many, 1)
        self.assertEqual(self.refused(NoBack, self.log.back).many, 1)
        with self.assertRaises(NoBack):
            Log().back()

    def test_no_mark(self):
        for thing in NO_NAMES:
            self.assertIs(self.refused(NoMark, lambda: self.log.mark(thing)).name, thing)
            self.assertIs(self.refused(NoMark, lambda: self.log.back_to(thing)).name, thing)
        for name in ("lost", "y", "abcdefgh"):
            self.assertIs(self.refused(NoMark, lambda: self.log.back_to(name)).name, name)
        self.assertEqual(self.log.marks(), ["x"])

    def test_no_thing(self):
        world = World(3)
        for thing in (3, -1, 10 ** 60, True, False, None, "0", "", 0.0, [], (0,), object(), Hostile()):
            self.assertIs(self.refused(NoThing, lambda: self.log.led(world, thing)).thing, thing)
        for log in (self.log, Log()):
            with self.assertRaises(NoThing):
                log.led(World(), 0)


class Fulls(unittest.TestCase):

    def refused(self, size, log, ask):
        ahead = all_told(log)
        with self.assertRaises(Full) as caught:
            ask()
        self.assertEqual(caught.exception.size, size)
        self.assertEqual(all_told(log), ahead)

    def test_four_thousand_signs(self):
        log = Log()
        for turn in range(66):
            log.do("aA" * 30)
        self.assertEqual(log.do("a" + "aA" * 19 + "a"), 4000)
        for row, size in (("a", 4001), ("aA", 4002), ("bcdef" * 12, 4060)):
            self.refused(size, log, lambda: log.do(row))
        self.assertEqual(log.do(""), 4000)
        self.refused(4001, log, log.back)
        self.refused(8000, log, lambda: log.back(4000))
        self.assertIsNone(log.mark("x"))
        self.assertEqual(log.back_to("x"), 0)
        self.assertEqual((log.standing(), log.marks(), log.walk().end()), (log.row(), ["x"], "aa"))

    def test_marks_and_back_up_to_four_thousand(self):
        log = Log()
        for turn in range(33):
            log.do("bB" * 30)
        log.mark("x")
        log.do("aA" * 10)
        self.assertEqual((len(log), log.back(2000)), (2000, 4000))
        self.assertEqual((log.standing(), log.marks()), ("", []))
        log = Log()
        log.mark("x")
        for turn in range(33):
            log.do("bB" * 30)
        log.do("bB" * 10 + "b")
        self.refused(4002, log, lambda: log.back_to("x"))
        self.assertEqual(log.marks(), ["x"])
        self.assertEqual(log.back(1999), 4000)
        self.assertEqual(log.marks(), ["x"])
        self.refused(4002, log, lambda: log.back_to("x"))

    def test_signs_are_looked_at_first(self):
        log = Log()
        for turn in range(66):
            log.do("aA" * 30)
        self.refused(4020, log, lambda: log.do("b" * 60))
        self.assertEqual(log.do("aA" * 10), 3980)
        self.refused(4040, log, lambda: log.do("bcdef" * 12))

    def test_sixty_one_places(self):
        log = Log()
        self.assertEqual(log.do("ab" * 30), 60)
        self.assertEqual(len(log.walk()), 61)
        for row, size in (("c", 62), ("BAcC", 62), ("b" * 60, 121), ("cd", 63)):
            self.refused(size, log, lambda: log.do(row))
        self.assertEqual(log.do("BABAab"), 66)
        log.mark("x")
        self.assertEqual(log.back(66), 132)
        self.assertEqual(log.marks(), [])
        self.refused(64, log, lambda: log.do("AAA"))
        self.assertEqual(log.do("a"), 133)


class Alike(unittest.TestCase):

    def test_alike_where_their_walks_are(self):
        source = source_of(3)
        for number in range(60):
            row = some_row(source, 0, 12)
            one, other = Log(), Log()
            one.do(row)
            other.do(some_walking(source, places_of(row), taken_out(row)))
            other.mark("x")
            self.assertTrue(one == other)
            self.assertFalse(one != other)
            other.do("aA")
            one.do("a")
            self.assertEqual(one == other, one.walk() == other.walk())
            self.assertFalse(one == other)
            one.back()
            self.assertTrue(one == other)
        one, other = Log(), Log()
        one.do("")
        self.assertTrue(one == other)
        one.do("aAbB")
        other.do("bBaA")
        self.assertTrue(one == other)
        other.do("a")
        self.assertFalse(one == other)

    def test_like_nothing_else(self):
        log = Log()
        for thing in ODD_THINGS + (log.walk(), log.row(), [], 0):
            if not isinstance(thing, Hostile):
                self.assertIs(log == thing, False)
                self.assertIs(log != thing, True)

    def test_a_copy_goes_its_own_way(self):
        log = Log()
        log.do("ab")
        log.mark("x")
        log.do("c")
        twin = log.copy()
        self.assertIsInstance(twin, Log)
        self.assertIsNot(twin, log)
        self.assertTrue(twin == log)
        self.assertEqual(all_told(twin), all_told(log))
        ahead = all_told(log)
        twin.do("d")
        twin.mark("y")
        twin.back_to("x")
        twin.back(2)
        self.assertEqual(all_told(log), ahead)
        self.assertEqual((twin.row(), twin.standing(), twin.marks()), ("abcdDCBA", "", []))
        ahead = all_told(twin)
        log.mark("z")
        self.assertEqual(log.back_to("x"), 1)
        log.do("f")
        self.assertEqual(all_told(twin), ahead)

    def test_told_lists_and_walks_are_new(self):
        log = Log()
        log.do("ab")
        log.mark("x")
        ahead = all_told(log)
        log.marks().append("y")
        log.marks().clear()
        log.walk().places().clear()
        self.assertIsNot(log.walk(), log.walk())
        self.assertEqual(all_told(log), ahead)
        walk = log.walk()
        log.do("c")
        self.assertEqual(walk, walk_of("ab"))

    def test_two_logs_are_apart(self):
        one, other = Log(), Log()
        one.do("a")
        one.mark("x")
        self.assertEqual(all_told(other), ("", "", [], Walk(), "", 0))


if __name__ == "__main__":
    unittest.main()
