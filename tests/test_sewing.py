"""Point [21]: told pairs, sewings, their seams, and what is due."""

import itertools
import unittest

from samples import (NO_PAIRS, NO_ROWS, ODD_THINGS, Hostile, Plainly, all_rows, back_and_forth, done, places_of,
                     some_pairs, some_row, some_world, source_of, swapped)
from undotrees.errors import Full, NoNumber, NoPairs, NoRow, NoSeam
from undotrees.folding import folded, tells
from undotrees.machines import Machine
from undotrees.sewing import Sewing
from undotrees.walks import walk_of


class Begin(unittest.TestCase):

    def check(self, sewing, row):
        machine = sewing.machine()
        self.assertIsInstance(machine, Machine)
        told = Plainly(source_of(0), row, [])
        self.assertEqual(machine, Machine(told.rooms, told.ways, told.goal))
        self.assertEqual(folded(machine), (machine, list(range(len(machine)))))
        self.assertEqual((machine.rooms(), machine.runs(row)), (len(walk_of(row)), [machine.goal()]))
        self.assertEqual(sewing.seams(), [])
        self.assertEqual(len(sewing), 0)
        self.assertIs(bool(sewing), False)

    def test_by_hand(self):
        sewing = Sewing("abBAbA")
        self.assertEqual(sewing.machine(), Machine(5, [(0, "a", 1), (0, "b", 2), (1, "b", 3), (4, "a", 2)], 4))
        self.assertEqual(Sewing("").machine(), Machine())
        self.assertEqual(Sewing("A").machine(), Machine(2, [(1, "a", 0)], 1))
        self.assertEqual(Sewing("cCbBAaa").machine(), Machine(5, [(0, "a", 1), (2, "a", 0), (0, "b", 3), (0, "c", 4)], 1))

    def test_some_rows(self):
        source = source_of(1)
        for number in range(150):
            row = some_row(source, 0, source.choice((6, 39)))
            for sewing in (Sewing(row), Sewing(row, None), Sewing(row, []), Sewing(row, some_pairs(source)),
                           Sewing(row, [("", "f" * 12)] * 4, 40)):
                self.check(sewing, row)
        for number in range(50):
            row = back_and_forth(source, 60)
            if len(walk_of(row)) <= 40:
                self.check(Sewing(row), row)

    def test_places_in_their_order_have_signs_in_theirs(self):
        # One comes to the places shorter rows first, and of like lengths as rows are ordered.
        row = "bB" + "BbaAA" + "aa"
        machine = Sewing(row).machine()
        for number, place in enumerate(places_of(row)):
            self.assertEqual(machine.runs(place), [number])

    def test_as_many_places_as_most(self):
        self.check(Sewing("a" * 39), "a" * 39)
        self.check(Sewing("aB" * 19, None, 39), "aB" * 19)
        self.check(Sewing("", [], 1), "")
        self.check(Sewing("aA" * 30, [], 2), "aA" * 30)

    def test_arguments_by_name(self):
        self.check(Sewing(row="ab", pairs=[("a", "b")], most=7), "ab")
        self.check(Sewing(most=3, row="ab"), "ab")
        self.check(Sewing("ab", most=3, pairs=None), "ab")


class Refused(unittest.TestCase):

    def refused(self, error, *told):
        with self.assertRaises(error) as caught:
            Sewing(*told)
        return caught.exception

    def test_no_row_goes_ahead(self):
        for thing in NO_ROWS:
            for pairs in (None, [], 7, [None], Hostile()):
                for most in (40, 0, None):
                    self.assertIs(self.refused(NoRow, thing, pairs, most).text, thing)

    def test_no_pairs(self):
        for pairs, number in NO_PAIRS:
            for row, most in itertools.product(("", "a", "a" * 60), (40, 1, 0, 41, None, True, Hostile())):
                refusal = self.refused(NoPairs, row, pairs, most)
                self.assertEqual(refusal.number, number)
                self.assertIs(type(refusal.number), type(number))

    def test_twelve_signs_and_four_pairs(self):
        Sewing("a", [("a" * 12, "B" * 12)] * 4)
        Sewing("a", [("", "")] * 4)

    def test_no_number(self):
        for thing in (0, 41, -1, True, False, None, "1", "", 1.5, [], (), {}, b"1", object(), Hostile(), 10 ** 60):
            for row in ("", "a", "a" * 60):
                self.assertIs(self.refused(NoNumber, row, None, thing).number, thing)
                self.assertIs(self.refused(NoNumber, row, [("a", "b")], thing).number, thing)

    def test_full(self):
        for row, most, size in (("a" * 40, 40, 41), ("a" * 60, 40, 61), ("a", 1, 2), ("aA", 1, 2), ("abBcC", 3, 4),
                                ("a" * 39, 39, 40), ("aB" * 30, 12, 61)):
            self.assertEqual(self.refused(Full, row, None, most).size, size)
            self.assertEqual(self.refused(Full, row, [("a", "")], most).size, size)
        self.assertEqual(self.refused(Full, "b" * 45).size, 46)


def follow(test, source, row, pairs, most=40, seams=25):
    """Sew what is due, and other seams, and compare all that is told with a sewing told anew."""
    sewing, plainly = Sewing(row, pairs, most), Plainly(source, row, pairs)
    sewn = []
    for turn in range(seams):
        due = sewing.due()
        test.assertEqual(due, plainly.due())
        seam = due
        if due is None or source.random() < 0.4:
            there = [(room, pair, turned) for room in range(plainly.rooms) for pair in range(len(pairs))
                     for turned in (False, True) if plainly.lead(pairs[pair][turned], room) is not None]
            if not there:
                break
            seam = source.choice(there)
        before = sewing.machine()
        plainly.sew(*seam)
        if plainly.rooms > most:
            with test.assertRaises(Full) as caught:
                sewing.sew(seam)
            test.assertEqual(caught.exception.size, plainly.rooms)
            test.assertEqual((sewing.machine(), sewing.seams()), (before, sewn))
            return sewing
        test.assertTrue(sewing.is_seam(seam))
        test.assertEqual(sewing.sew(seam), plainly.rooms)
        sewn.append(seam)
        test.assertEqual(sewing.machine(), Machine(plainly.rooms, plainly.ways, plainly.goal))
        test.assertEqual((sewing.seams(), len(sewing), bool(sewing)), (sewn, len(sewn), True))
        test.assertTrue(sewing.tells(row))
    return sewing


class Sewn(unittest.TestCase):

    def test_by_hand(self):
        sewing = Sewing("ab", [("ab", "ba")])
        self.assertEqual(sewing.due(), (0, 0, False))
        self.assertEqual(sewing.sew((0, 0, False)), 4)
        self.assertEqual(sewing.machine(), Machine(4, [(0, "a", 1), (0, "b", 2), (1, "b", 3), (2, "a", 3)], 3))
        self.assertEqual((sewing.seams(), len(sewing), bool(sewing)), ([(0, 0, False)], 1, True))
        self.assertIsNone(sewing.due())
        self.assertIsNone(sewing.sew_next())
        self.assertEqual(len(sewing), 1)
        self.assertTrue(sewing.tells("ba"))
        self.assertTrue(sewing.tells("abBb"))
        self.assertFalse(sewing.tells("abb"))
        sewing = Sewing("ba", [("ab", "ba")])
        self.assertEqual(sewing.due(), (0, 0, True))
        self.assertEqual(sewing.sew_next(), (0, 0, True))
        self.assertEqual(sewing.machine(), Machine(4, [(0, "a", 1), (0, "b", 2), (1, "b", 3), (2, "a", 3)], 3))

    def test_a_row_without_signs(self):
        sewing = Sewing("aab", [("aa", "")])
        self.assertEqual(sewing.due(), (0, 0, False))
        self.assertEqual(sewing.sew_next(), (0, 0, False))
        self.assertEqual(sewing.machine(), Machine(3, [(0, "a", 1), (1, "a", 0), (0, "b", 2)], 2))
        # From room 2 the row without signs leads to room 2, and two more deeds do not yet.
        self.assertEqual(sewing.due(), (2, 0, True))
        self.assertEqual(sewing.sew((2, 0, True)), 4)
        self.assertEqual(sewing.machine(), Machine(4, [(0, "a", 1), (1, "a", 0), (0, "b", 2), (2, "a", 3), (3, "a", 2)], 2))
        self.assertIsNone(sewing.due())
        sewing = Sewing("", [("", "a")])
        self.assertEqual(sewing.sew((0, 0, False)), 1)
        self.assertEqual(sewing.machine(), Machine(1, [(0, "a", 0)]))
        sewing = Sewing("", [("", "")])
        self.assertIsNone(sewing.due())
        self.assertEqual(sewing.sew((0, 0, True)), 1)
        self.assertEqual((sewing.machine(), sewing.seams()), (Machine(), [(0, 0, True)]))

    def test_the_goal_goes_where_its_room_goes(self):
        sewing = Sewing("bbaa", [("aa", "")])
        self.assertEqual(sewing.machine().goal(), 4)
        sewing.sew((2, 0, False))
        self.assertEqual(sewing.machine(), Machine(4, [(0, "b", 1), (1, "b", 2), (2, "a", 3), (3, "a", 2)], 2))

    def test_a_seam_by_which_nothing_is_changed(self):
        sewing = Sewing("ab", [("ab", "abBb"), ("a", "a")])
        before = sewing.machine()
        for seam in ((0, 0, False), (0, 0, True), (0, 1, False), (0, 0, False)):
            self.assertEqual(sewing.sew(seam), 3)
            self.assertEqual(sewing.machine(), before)
        self.assertEqual(sewing.seams(), [(0, 0, False), (0, 0, True), (0, 1, False), (0, 0, False)])
        self.assertEqual(len(sewing), 4)

    def test_some_sewings(self):
        source = source_of(2)
        for number in range(120):
            pairs = some_pairs(source)
            row = source.choice((some_row(source, 0, 8), pairs[0][0] if pairs else "", back_and_forth(source, 8)))
            follow(self, source, row, pairs, source.choice((40, 40, max(20, len(walk_of(row))))))

    def test_long_pairs_go_beyond_forty_rooms_and_are_folded(self):
        # Twelve new signs have eleven rooms between them, of which all but one are folded away again.
        source = source_of(3)
        row = "a" * 38
        sewing = Sewing(row, [("a" * 11, "a" * 11 + "b"), ("a" * 12, "aaaaaaaaaaab")])
        self.assertEqual(sewing.sew((0, 0, False)), 39)
        self.assertEqual(sewing.sew((1, 1, False)), 39)
        follow(self, source, "a" * 39, [("a" * 12, "a" * 11 + "b"), ("a" * 12, "c" + "a" * 11)], 40, 12)
        follow(self, source, "a" * 30 + "b" * 9, [("a" * 12, "b" * 12), ("b" * 9, "")], 40, 8)

    def test_forty_rooms_with_as_many_ways_as_there_may_be(self):
        sewing = Sewing("a" * 39, [("", deed) for deed in "bcde"])
        while sewing.sew_next():
            pass
        self.assertEqual((len(sewing), sewing.machine().rooms(), len(sewing.machine().ways())), (160, 40, 199))
        self.assertTrue(sewing.tells("bcdea" * 2 + "a" * 37))

    def test_due_goes_by_rooms_then_pairs_then_the_one_not_turned(self):
        self.assertEqual(Sewing("ab", [("b", "c"), ("d", "a")]).due(), (0, 1, True))
        self.assertEqual(Sewing("ab", [("d", "a"), ("a", "c")]).due(), (0, 0, True))
        self.assertEqual(Sewing("ab", [("f", "e"), ("b", "c")]).due(), (1, 1, False))
        self.assertEqual(Sewing("aAb", [("a", "b")]).due(), (0, 0, False))
        self.assertEqual(Sewing("aAb", [("b", "a")]).due(), (0, 0, False))
        self.assertEqual(Sewing("aAb", [("c", "d"), ("a", "a"), ("b", "a")]).due(), (0, 2, False))
        self.assertIsNone(Sewing("ab", [("c", "d"), ("a", "aAa"), ("ba", "ab" * 4)]).due())
        self.assertIsNone(Sewing("ab").due())
        self.assertIsNone(Sewing("ab", []).sew_next())

    def test_a_sewing_that_is_over(self):
        # Its rooms are a world in which both rows of each pair do the same from each thing.
        source = source_of(4)
        over = 0
        for number in range(200):
            pairs = some_pairs(source)
            row = some_row(source, 0, 6)
            sewing = Sewing(row, pairs)
            try:
                while True:
                    due = sewing.due()
                    many = len(sewing)
                    seam = sewing.sew_next()
                    self.assertEqual((seam, len(sewing)), (due, many + (due is not None)))
                    if seam is None:
                        break
            except Full as refusal:
                self.assertGreater(refusal.size, 40)
                continue
            machine = sewing.machine()
            laid = [(deed, one, other) for one, deed, other in machine.ways()]
            for thing in range(len(machine)):
                for one, other in pairs:
                    self.assertEqual(done(laid, one, thing), done(laid, other, thing))
            self.assertEqual(done(laid, row, 0), machine.goal())
            self.assertEqual(sewing.seams()[:1], [Sewing(row, pairs).due()] if sewing.seams() else [])
            over += bool(sewing)
        self.assertGreater(over, 50)

    def test_told_rows_do_all_that_the_row_does_where_the_pairs_are_the_same(self):
        source = source_of(5)
        worlds = [some_world(source, 4) for number in range(200)]
        rows = list(all_rows("aAbB", 3))
        many = 0
        for number in range(60):
            pairs = [(some_row(source, 0, 2), some_row(source, 0, 2)) for pair in range(source.randint(1, 2))]
            row = source.choice(rows)
            sewing = Sewing(row, pairs)
            for turn in range(6):
                try:
                    sewing.sew_next()
                except Full:
                    break
            told = [other for other in rows if sewing.tells(other)]
            for world, laid in worlds:
                if all(world.same(*pair) for pair in pairs):
                    for thing in range(len(world)):
                        end = done(laid, row, thing)
                        if end is not None:
                            for other in told:
                                self.assertEqual(done(laid, other, thing), end)
                                many += other != row
        self.assertGreater(many, 1000)

    def test_tells_as_its_machine_does(self):
        source = source_of(6)
        seen = {True: 0, False: 0}
        for number in range(60):
            sewing = follow(self, source, some_row(source, 0, 5), some_pairs(source), 40, 3)
            machine = sewing.machine()
            for row in [back_and_forth(source, 6) for turn in range(10)] + ["", "a", "ab", "aA"]:
                told = tells(machine, row)
                self.assertIs(sewing.tells(row), told)
                seen[told] += 1
        self.assertGreater(min(seen.values()), 50)
        for thing in NO_ROWS:
            with self.assertRaises(NoRow) as caught:
                sewing.tells(thing)
            self.assertIs(caught.exception.text, thing)

    def test_arguments_by_name(self):
        sewing = Sewing("ab", [("ab", "ba")])
        self.assertTrue(sewing.is_seam(thing=(0, 0, False)))
        self.assertEqual(sewing.sew(seam=(0, 0, False)), 4)
        self.assertTrue(sewing.tells(row="ba"))


class Seams(unittest.TestCase):

    def test_by_hand(self):
        sewing = Sewing("ab", [("b", "aaa"), ("", "B"), ("A", "Aa")])
        good = [(1, 0, False), (0, 1, False), (1, 1, False), (2, 1, False), (2, 1, True), (1, 2, False), (1, 2, True)]
        for room, pair, turned in itertools.product(range(-1, 4), range(-1, 4), (False, True)):
            self.assertIs(sewing.is_seam((room, pair, turned)), (room, pair, turned) in good, (room, pair, turned))

    def test_refused(self):
        sewing = Sewing("ab", [("a", "bb"), ("b", "a")])
        before = sewing.machine()
        bad = [(2, 0, False), (0, 0, True), (3, 0, False), (0, 2, False), (-1, 0, False), (-3, 0, False), (0, -1, True),
               (0, -2, False), (0, 0), (0, 0, False, False), (0, 0, 0), (0, 0, 1), (0, 0, None), (0, 0, "False"), (False, 0, False),
               (0, False, False), (0, True, True), (0.0, 0, False), (0, 0.0, False), [0, 0, False], "00F", (None, 0, False),
               (0, None, False), ("0", 0, False), (0, ("a", "bb"), False), (10 ** 60, 0, False), (Hostile(), 0, False),
               (0, Hostile(), False), (0, 0, Hostile()), ((0, 0, False),)]
        for thing in bad + list(ODD_THINGS):
            self.assertIs(sewing.is_seam(thing), False, thing)
            with self.assertRaises(NoSeam) as caught:
                sewing.sew(thing)
            self.assertIs(caught.exception.seam, thing)
            self.assertEqual((sewing.machine(), len(sewing), sewing.seams()), (before, 0, []))
        self.assertIs(sewing.is_seam((0, 0, False)), True)
        self.assertEqual(sewing.due(), (0, 0, False))

    def test_no_pairs_have_no_seams(self):
        for sewing in (Sewing("ab"), Sewing("ab", [])):
            for room, turned in itertools.product(range(3), (False, True)):
                self.assertIs(sewing.is_seam((room, 0, turned)), False)

    def test_a_seam_is_asked_of_the_machine_as_it_is_now(self):
        sewing = Sewing("a", [("a", "bc"), ("b", "a")])
        self.assertIs(sewing.is_seam((0, 1, False)), False)
        sewing.sew((0, 0, False))
        self.assertIs(sewing.is_seam((0, 1, False)), True)
        self.assertIs(sewing.is_seam((2, 0, False)), False)


class Fulls(unittest.TestCase):

    def test_how_many_rooms_there_would_be(self):
        for most, size in ((2, 13), (12, 13), (5, 13)):
            sewing = Sewing("a", [("a", "bcdefabcdefb")], most)
            for ask in (lambda: sewing.sew((0, 0, False)), sewing.sew_next):
                with self.assertRaises(Full) as caught:
                    ask()
                self.assertEqual(caught.exception.size, size)
                self.assertEqual((sewing.machine(), sewing.seams(), len(sewing)), (Sewing("a").machine(), [], 0))
                self.assertEqual(sewing.due(), (0, 0, False))
        sewing = Sewing("a", [("a", "bcdefabcdefb")], 13)
        self.assertEqual(sewing.sew_next(), (0, 0, False))
        self.assertEqual(sewing.machine().rooms(), 13)

    def test_counted_as_folded(self):
        # Eleven new rooms, but the last of them is folded to the begin, from which "a" leads to the same room.
        sewing = Sewing("a", [("a", "bcdefabcdefa")], 2)
        with self.assertRaises(Full) as caught:
            sewing.sew_next()
        self.assertEqual(caught.exception.size, 12)
        sewing = Sewing("aaa", [("aaa", "aaaAaAaAaAa")], 4)
        self.assertEqual(sewing.sew((0, 0, False)), 4)
        sewing = Sewing("aaa", [("aaa", "aaaAaAaAaAaa")], 4)
        self.assertEqual(sewing.sew((0, 0, False)), 1)
        sewing = Sewing("a" * 39, [("a" * 12, "a" * 11 + "b")])
        self.assertEqual(sewing.sew((0, 0, False)), 40)

    def test_forty_one(self):
        sewing = Sewing("a" * 39, [("a", "bc")])
        with self.assertRaises(Full) as caught:
            sewing.sew_next()
        self.assertEqual(caught.exception.size, 41)
        with self.assertRaises(Full) as caught:
            Sewing("a" * 39, [("a", "bcdefabcdefb")]).sew((5, 0, False))
        self.assertEqual(caught.exception.size, 51)

    def test_four_hundred_seams(self):
        sewing = Sewing("ab", [("a", "a"), ("b", "cdf")], 4)
        for number in range(400):
            self.assertEqual(sewing.sew((0, 0, False)), 3)
        before = sewing.machine()
        for ask in (lambda: sewing.sew((0, 0, False)), lambda: sewing.sew((0, 0, True)), lambda: sewing.sew((1, 1, False)),
                    sewing.sew_next):
            with self.assertRaises(Full) as caught:
                ask()
            self.assertEqual(caught.exception.size, 401)
            self.assertEqual((sewing.machine(), len(sewing), sewing.seams()), (before, 400, [(0, 0, False)] * 400))
        with self.assertRaises(NoSeam):
            sewing.sew((9, 9, False))
        self.assertEqual(sewing.due(), (1, 1, False))

    def test_over_behind_four_hundred_seams(self):
        sewing = Sewing("a", [("a", "aAa")])
        for number in range(400):
            sewing.sew((0, 0, True))
        self.assertIsNone(sewing.sew_next())
        self.assertIsNone(sewing.due())
        with self.assertRaises(Full) as caught:
            sewing.sew((0, 0, True))
        self.assertEqual(caught.exception.size, 401)


class Apart(unittest.TestCase):

    def test_a_list_that_is_changed_behind_the_call(self):
        pairs = [("ab", "ba")]
        sewing = Sewing("ab", pairs)
        pairs[0] = ("ab", "c")
        pairs.append(("a", "b"))
        self.assertEqual(sewing.sew_next(), (0, 0, False))
        self.assertEqual(sewing.machine(), Machine(4, [(0, "a", 1), (0, "b", 2), (1, "b", 3), (2, "a", 3)], 3))
        self.assertIsNone(sewing.due())
        self.assertEqual(pairs, [("ab", "c"), ("a", "b")])

    def test_told_lists_and_machines_are_new(self):
        sewing = Sewing("ab", [("ab", "ba")])
        machine = sewing.machine()
        self.assertIsNot(machine, sewing.machine())
        sewing.sew_next()
        self.assertEqual(machine, Sewing("ab").machine())
        sewing.seams().append(None)
        sewing.seams().clear()
        sewing.machine().ways().clear()
        self.assertEqual((sewing.seams(), len(sewing), len(sewing.machine().ways())), ([(0, 0, False)], 1, 4))

    def test_two_sewings_go_their_own_ways(self):
        pairs = [("ab", "ba")]
        one, other = Sewing("ab", pairs), Sewing("ab", pairs)
        one.sew_next()
        self.assertEqual((len(one), len(other), other.machine().rooms()), (1, 0, 3))
        self.assertEqual(pairs, [("ab", "ba")])

    def test_turned_pairs_are_sewn_alike(self):
        source = source_of(7)
        for number in range(40):
            pairs = some_pairs(source)
            row = some_row(source, 0, 5)
            one, other = Sewing(row, pairs), Sewing(row, [pair[::-1] for pair in pairs])
            for pair, turned in itertools.product(range(len(pairs)), (False, True)):
                self.assertIs(one.is_seam((0, pair, turned)), other.is_seam((0, pair, not turned)))
                if one.is_seam((0, pair, turned)) and len(pairs[pair][not turned]) < 10:
                    self.assertEqual(one.sew((0, pair, turned)), other.sew((0, pair, not turned)))
                    self.assertEqual(one.machine(), other.machine())

    def test_contraries(self):
        # From the end on, the contraries of the pairs are sewn as the pairs are from the begin on.
        one = Sewing("abab", [("ab", "c")])
        other = Sewing(swapped("abab"), [(swapped("ab"), "C")])
        while one.sew_next():
            pass
        while other.sew_next():
            pass
        self.assertEqual(one.machine().rooms(), other.machine().rooms())
        self.assertTrue(one.tells("cc"))
        self.assertTrue(other.tells("CC"))


if __name__ == "__main__":
    unittest.main()
