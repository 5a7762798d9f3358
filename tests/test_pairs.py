"""Point [22]: papers for two rows by told pairs, told and looked at."""

import itertools
import unittest

from samples import (NO_PAIRS, NO_ROWS, ODD_THINGS, Hostile, Plainly, all_rows, done, places_of, some_pairs, some_row,
                     some_world, source_of, swapped)
from undotrees.errors import Full, NoNumber, NoPairs, NoRow
from undotrees.pairs import lets_by, paper_by
from undotrees.sewing import Sewing
from undotrees.unlike import same
from undotrees.worlds import World

NO_MOST = (0, 41, -1, True, False, None, "1", "", 1.5, [], (), {}, object(), Hostile(), 10 ** 60)


def by_turns(source, one, other, pairs, most=40):
    """The word, and the seams of both rows, or how many rooms there would be, as the document says it."""
    for row in (one, other):
        if len(places_of(row)) > most:
            return "full", len(places_of(row))
    first, second = Plainly(source, one, pairs), Plainly(source, other, pairs)
    seams, others = [], []
    for sewing, row, sewn in itertools.cycle(((first, other, seams), (second, one, others))):
        if first.tells(other) and second.tells(one):
            return "same", seams, others
        if sewing.tells(row):
            continue
        due = sewing.due()
        if due is None:
            return "apart", sewing
        sewing.sew(*due)
        if sewing.rooms > most:
            return "full", sewing.rooms
        sewn.append(due)


def two_rows(source, pairs):
    """Two rows, the second one often the first with one row of a pair in the other one's place."""
    one = some_row(source, 0, 4)
    if pairs and source.random() < 0.7:
        pair = source.choice(pairs)
        head, tail = some_row(source, 0, 2), some_row(source, 0, 2)
        return head + pair[0] + tail, head + pair[1] + tail
    return one, some_row(source, 0, 4)


def world_of(things, *laid):
    world = World(things)
    for deed, one, other in laid:
        world.lay(deed, one, other)
    return world


class Told(unittest.TestCase):

    def check(self, source, one, other, pairs, most=40):
        told = by_turns(source, one, other, pairs, most)
        if told[0] == "full":
            with self.assertRaises(Full) as caught:
                paper_by(one, other, pairs, most)
            self.assertEqual(caught.exception.size, told[1])
            return "full"
        paper = paper_by(one, other, pairs, most)
        self.assertIs(type(paper), tuple)
        self.assertEqual(paper[0], told[0])
        self.assertIs(lets_by(one, other, pairs, paper), True)
        if told[0] == "same":
            self.assertEqual(paper, told)
            self.assertIsNot(paper[1], paper[2])
        else:
            word, world, thing = paper
            self.assertIsInstance(world, World)
            self.assertIs(type(thing), int)
            laid = world.laid()
            self.assertNotEqual(done(laid, one, thing), done(laid, other, thing))
            for begin, (first, second) in itertools.product(range(len(world)), pairs):
                self.assertEqual(done(laid, first, begin), done(laid, second, begin))
        return told[0]

    def test_by_hand(self):
        pairs = [("ab", "ba")]
        self.assertEqual(paper_by("ab", "ba", pairs), ("same", [(0, 0, False)], [(0, 0, True)]))
        self.assertEqual(paper_by("ba", "ab", pairs), ("same", [(0, 0, True)], [(0, 0, False)]))
        self.assertEqual(paper_by("aab", "baa", pairs),
                         ("same", [(1, 0, False), (0, 0, False)], [(0, 0, True), (1, 0, True)]))
        self.assertEqual(paper_by("a", "b", pairs)[0], "apart")
        self.assertEqual(paper_by("", "aA", pairs)[0], "apart")
        self.assertEqual(paper_by("", "aA", [("", "a")])[0], "same")
        self.assertEqual(paper_by("", "b", [("", "a"), ("a", "b")])[0], "same")
        self.assertEqual(paper_by("aaa", "", [("aa", "")])[0], "apart")
        self.assertEqual(paper_by("aaaa", "", [("aa", "")])[0], "same")

    def test_no_pairs_as_whether_they_are_the_same(self):
        source = source_of(1)
        words = []
        for number in range(200):
            one = some_row(source, 0, 5)
            other = source.choice((some_row(source, 0, 5), one + swapped(one) + one))
            word = "same" if same(one, other) else "apart"
            for paper in (paper_by(one, other), paper_by(one, other, None), paper_by(one, other, [])):
                self.assertEqual(paper[0], word)
                if word == "same":
                    self.assertEqual(paper, ("same", [], []))
                self.assertIs(lets_by(one, other, [], paper), True)
                self.assertIs(lets_by(one, other, None, paper), True)
            words.append(word)
        self.assertGreater(min(words.count("same"), words.count("apart")), 30)

    def test_some_rows(self):
        source = source_of(2)
        words = []
        for number in range(250):
            pairs = some_pairs(source)
            one, other = two_rows(source, pairs)
            words.append(self.check(source, one, other, pairs, source.choice((40, 40, 12, 5))))
        for word in ("same", "apart", "full"):
            self.assertGreater(words.count(word), 25, word)

    def test_by_turns(self):
        # The first sewing would have no end; that of the second row is over when its turn comes.
        pairs = [("a", "aac")]
        self.assertEqual(self.check(source_of(3), "a", "b", pairs), "apart")
        self.assertEqual(self.check(source_of(3), "b", "a", pairs), "apart")
        with self.assertRaises(Full):
            paper_by("a", "ab", pairs)
        # The first tells the second at once, and sews no more, whatever is due; only the second sews.
        pairs = [("b", "aAb"), ("aAb", "c")]
        word, seams, others = paper_by("aAb", "b", pairs)
        self.assertEqual((word, seams, others), ("same", [], [(0, 0, False)]))
        self.assertEqual(Sewing("aAb", pairs).due(), (0, 1, False))
        word, seams, others = paper_by("b", "aAb", pairs)
        self.assertEqual((word, seams, others), ("same", [(0, 0, False)], []))
        # It ends as soon as each tells the other row, though more is due.
        self.assertEqual(paper_by("a", "a", [("a", "b")]), ("same", [], []))

    def test_most(self):
        pairs = [("ab", "ba")]
        self.assertEqual(paper_by("ab", "ba", pairs, 4)[0], "same")
        for most, size in ((3, 4), (2, 3), (1, 3)):
            with self.assertRaises(Full) as caught:
                paper_by("ab", "ba", pairs, most)
            self.assertEqual(caught.exception.size, size)
        with self.assertRaises(Full) as caught:
            paper_by("a", "abc", None, 3)
        self.assertEqual(caught.exception.size, 4)

    def test_many_seams_and_many_rooms(self):
        # Four seams for each room ahead of the last one, and the first of the last one.
        pairs = [("", deed) for deed in "bcde"]
        word, seams, others = paper_by("a" * 38, "a" * 38 + "b", pairs)
        self.assertEqual((word, len(seams)), ("same", 4 * 38 + 1))
        self.assertIs(lets_by("a" * 38, "a" * 38 + "b", pairs, (word, seams, others)), True)
        self.assertIs(lets_by("a" * 38, "a" * 38 + "b", pairs, (word, seams[:-1], others)), False)

    def test_refused_as_a_sewing_is(self):
        for thing in NO_ROWS:
            for pairs, most in ((None, 40), (7, 0), ([None], None)):
                for rows in ((thing, "a"), ("a", thing), (thing, "x"), ("a" * 60, thing)):
                    with self.assertRaises(NoRow) as caught:
                        paper_by(*rows, pairs, most)
                    self.assertIs(caught.exception.text, thing)
        for pairs, number in NO_PAIRS:
            for rows, most in itertools.product((("a", "b"), ("a" * 60, "")), (40, 0, None)):
                with self.assertRaises(NoPairs) as caught:
                    paper_by(*rows, pairs, most)
                self.assertEqual(caught.exception.number, number)
        for thing in NO_MOST:
            for rows in (("a", "a"), ("", "a" * 60), ("a" * 60, "")):
                with self.assertRaises(NoNumber) as caught:
                    paper_by(*rows, [("a", "b")], thing)
                self.assertIs(caught.exception.number, thing)
        for one, other, size in (("a" * 40, "", 41), ("", "b" * 50, 51), ("a" * 41, "b" * 60, 42)):
            with self.assertRaises(Full) as caught:
                paper_by(one, other, [("a", "b")])
            self.assertEqual(caught.exception.size, size)

    def test_arguments_by_name(self):
        paper = paper_by(one="ab", other="ba", pairs=[("ab", "ba")], most=7)
        self.assertEqual(paper, ("same", [(0, 0, False)], [(0, 0, True)]))
        self.assertEqual(paper_by(most=7, other="a", one="a"), ("same", [], []))
        self.assertIs(lets_by(one="ab", other="ba", pairs=[("ab", "ba")], thing=paper), True)
        self.assertIs(lets_by(thing=paper, pairs=[("ab", "ba")], other="ba", one="ab"), True)

    def test_nothing_is_changed_and_told_ones_are_new(self):
        pairs = [("ab", "ba")]
        paper = paper_by("ab", "ba", pairs)
        paper[1].append(None)
        paper[2].clear()
        self.assertEqual(paper_by("ab", "ba", pairs), ("same", [(0, 0, False)], [(0, 0, True)]))
        apart = paper_by("ab", "b", pairs)
        laid = apart[1].laid()
        self.assertIs(lets_by("ab", "b", pairs, apart), True)
        self.assertEqual(apart[1].laid(), laid)
        apart[1].lift(laid[0][0], laid[0][1])
        again = paper_by("ab", "b", pairs)
        self.assertEqual((again[1].laid(), again[2]), (laid, apart[2]))
        seams, others = [(0, 0, False)], [(0, 0, True)]
        self.assertIs(lets_by("ab", "ba", pairs, ("same", seams, others)), True)
        self.assertEqual((seams, others, pairs), ([(0, 0, False)], [(0, 0, True)], [("ab", "ba")]))


class LookedAt(unittest.TestCase):

    pairs = [("ab", "ba"), ("cc", "")]

    def test_bent_papers_by_seams(self):
        good = ("same", [(0, 0, False)], [(0, 0, True)])
        self.assertIs(lets_by("ab", "ba", self.pairs, good), True)
        for seams in ([], [(0, 0, True)], [(1, 0, False)], [(0, 1, False)], [(0, 2, False)], [(3, 0, False)], [(0, 0)],
                      [(0, 0, 0)], [[0, 0, False]], [(0, 0, False), (9, 0, False)], [None], [(0, 0, False), None],
                      [(True, 0, False)], [(0, 0, False), Hostile()], [Hostile()], ((0, 0, False),), (), None, 0, "", "same",
                      {(0, 0, False): 1}, Hostile(), World(2), iter([(0, 0, False)])):
            self.assertIs(lets_by("ab", "ba", self.pairs, ("same", seams, good[2])), False, seams)
        for others in ([], [(0, 0, False)], [(1, 0, True)], [(0, 0, True), (0, 0)], None, ((0, 0, True),), Hostile(), [Hostile()]):
            self.assertIs(lets_by("ab", "ba", self.pairs, ("same", good[1], others)), False)
        for thing in (list(good), good[:2], good + ([],), good[1:], (good,), ("same", good[2], good[1]), (), ("same",),
                      ("Same",) + good[1:], ("same ",) + good[1:], (b"same",) + good[1:], (None,) + good[1:],
                      (Hostile(),) + good[1:], ("apart",) + good[1:], ("told",) + good[1:], {"same": good[1:]}, "same"):
            self.assertIs(lets_by("ab", "ba", self.pairs, thing), False)
        self.assertIs(lets_by("ab", "b", self.pairs, good), False)
        self.assertIs(lets_by("ba", "ab", self.pairs, good), False)
        self.assertIs(lets_by("ab", "ba", self.pairs[1:], good), False)
        self.assertIs(lets_by("ab", "ba", self.pairs[::-1], good), False)
        self.assertIs(lets_by("ab", "ba", [], good), False)
        self.assertIs(lets_by("ab", "ba", None, good), False)

    def test_more_seams_than_are_due(self):
        seams = [(0, 0, False), (0, 1, True), (0, 0, False)]
        others = [(2, 1, True), (0, 0, True)]
        self.assertIs(lets_by("ab", "ba", self.pairs, ("same", seams, others)), True)
        self.assertIs(lets_by("ab", "ba", self.pairs, ("same", seams[:2], others)), True)
        self.assertIs(lets_by("ab", "ba", self.pairs, ("same", seams[1:2], others)), False)
        self.assertIs(lets_by("ab", "ba", self.pairs, ("same", seams, others[:1])), False)

    def test_both_rows_are_to_be_told(self):
        # Where the second row is done the first one is, but not the other way about.
        pairs = [("c", "d")]
        self.assertTrue(Sewing("aAb", pairs).tells("b"))
        self.assertIs(lets_by("aAb", "b", pairs, ("same", [], [])), False)
        self.assertIs(lets_by("b", "aAb", pairs, ("same", [], [])), False)
        self.assertIs(lets_by("b", "bBb", pairs, ("same", [], [])), True)

    def test_four_hundred_seams_and_one_more(self):
        pairs = [("a", "aAa")]
        for seams, others, let in ((400, 0, True), (0, 400, True), (400, 400, True), (401, 0, False), (0, 401, False),
                                   (500, 500, False)):
            paper = ("same", [(0, 0, True)] * seams, [(0, 0, False)] * others)
            self.assertIs(lets_by("a", "a", pairs, paper), let, (seams, others))

    def test_seams_beyond_forty_rooms(self):
        pairs = [("a", "bc"), ("b", "C")]
        row = "a" * 38
        self.assertIs(lets_by(row, row, pairs, ("same", [(0, 0, False)], [])), True)
        # By the first seam there are 40 rooms, by the next one 41; the third would fold them to fewer again.
        sewing = Sewing(row, pairs)
        self.assertEqual(sewing.sew((0, 0, False)), 40)
        with self.assertRaises(Full):
            sewing.sew((1, 0, False))
        for seams in ([(0, 0, False), (1, 0, False)], [(0, 0, False), (1, 0, False), (0, 1, False)]):
            self.assertIs(lets_by(row, row, pairs, ("same", seams, [])), False)
            self.assertIs(lets_by(row, row, pairs, ("same", [], seams)), False)
        # Those at the begin count, too.
        self.assertIs(lets_by("a" * 39, "a" * 39, pairs, ("same", [], [])), True)
        self.assertIs(lets_by("a" * 40, "a" * 40, pairs, ("same", [], [])), False)
        self.assertIs(lets_by("a" * 60, "a" * 60, [], ("same", [], [])), False)
        self.assertIs(lets_by("aA" * 30, "aA" * 30, [], ("same", [], [])), True)

    def test_bent_papers_by_worlds(self):
        # Things 0 to 3 are a square; a leads 4 to 5, and from 5 b leads nowhere.
        world = world_of(6, ("a", 0, 1), ("b", 0, 2), ("a", 2, 3), ("b", 1, 3), ("a", 4, 5))
        pairs = [("ab", "ba")]
        self.assertIs(lets_by("ab", "b", pairs, ("apart", world, 0)), True)
        self.assertIs(lets_by("ab", "b", pairs, ("apart", world, 1)), True)
        self.assertIs(lets_by("ab", "a", pairs, ("apart", world, 4)), True)
        self.assertIs(lets_by("aA", "", pairs, ("apart", world, 5)), True)
        for thing in (3, 4, 5, 6, -1, 10 ** 60, True, False, None, "0", 0.0, (0,), Hostile()):
            self.assertIs(lets_by("ab", "b", pairs, ("apart", world, thing)), False)
        for thing in (("apart", world), ("apart", world, 0, 0), ["apart", world, 0], ("apart", 0, world), ("same", world, 0),
                      ("Apart", world, 0), (world, 0), ("apart", world.laid(), 0), ("apart", World(), 0), ("apart", None, 0),
                      ("apart", Hostile(), 0), ("apart", World(1), 0), ("apart", (world, 0)), (Hostile(), world, 0),
                      (None, world, 0), ("apart", "apart", 0), {"apart": 0}, "apart"):
            self.assertIs(lets_by("ab", "b", pairs, thing), False)
        self.assertIs(lets_by("ab", "ba", pairs, ("apart", world, 0)), False)
        self.assertIs(lets_by("ab", "abBb", pairs, ("apart", world, 0)), False)

    def test_a_world_in_which_a_pairs_rows_do_unlike(self):
        world = world_of(3, ("a", 0, 1), ("b", 1, 2))
        self.assertIs(lets_by("ab", "a", [], ("apart", world, 0)), True)
        self.assertIs(lets_by("ab", "a", None, ("apart", world, 0)), True)
        self.assertIs(lets_by("ab", "a", [("ba", "aa")], ("apart", world, 0)), True)
        for pairs in ([("ab", "ba")], [("a", "a"), ("ba", "ab")], [("aA", "")], [("", "bB")], [("a", "b")],
                      [("c", "d"), ("d", "c"), ("e", "f"), ("b", "e")]):
            for thing in range(3):
                self.assertIs(lets_by("ab", "a", pairs, ("apart", world, thing)), False)
        # From the told thing the rows of the pair do alike, from another one they do not.
        world = world_of(5, ("a", 0, 1), ("b", 2, 3), ("c", 3, 4))
        self.assertIs(lets_by("a", "", [("b", "d")], ("apart", world, 0)), False)
        self.assertIs(lets_by("a", "", [("bc", "bcCc")], ("apart", world, 0)), True)

    def test_a_world_of_many_things(self):
        world = world_of(61, ("a", 60, 59))
        self.assertIs(lets_by("a", "A", [("b", "c")], ("apart", world, 60)), True)
        self.assertIs(lets_by("a", "A", [("b", "c")], ("apart", world, 58)), False)
        self.assertIs(lets_by("a" * 60, "b", [("b", "a")], ("apart", world, 60)), False)

    def test_anything(self):
        for thing in ODD_THINGS:
            for rows in (("a", "a"), ("a", "b")):
                self.assertIs(lets_by(*rows, [("a", "b")], thing), False)
                for word in ("same", "apart", "told"):
                    self.assertIs(lets_by(*rows, [("c", "d")], (word, thing)), False)
                    self.assertIs(lets_by(*rows, [("c", "d")], (word, World(2), thing)), False)
                    let = rows == ("a", "a") and word == "same" and isinstance(thing, list) and thing == []
                    self.assertIs(lets_by(*rows, [("c", "d")], (word, thing, thing)), let)

    def test_refused(self):
        for thing in NO_ROWS:
            for pairs, paper in itertools.product((None, 7, [None]), (None, ("same", [], []), Hostile())):
                for rows in ((thing, "a"), ("a", thing), (thing, "x")):
                    with self.assertRaises(NoRow) as caught:
                        lets_by(*rows, pairs, paper)
                    self.assertIs(caught.exception.text, thing)
        for pairs, number in NO_PAIRS:
            for paper in (None, ("same", [], []), ("apart", World(1), 0), Hostile()):
                with self.assertRaises(NoPairs) as caught:
                    lets_by("a", "b", pairs, paper)
                self.assertEqual(caught.exception.number, number)
                self.assertIs(type(caught.exception.number), type(number))

    def test_never_papers_of_both_kinds(self):
        source = source_of(4)
        worlds = [some_world(source, 4)[0] for number in range(60)]
        rows = list(all_rows("aAbB", 2))
        seen = [0, 0]
        for number in range(40):
            pairs = [(some_row(source, 0, 2), some_row(source, 0, 2)) for pair in range(source.randint(1, 2))]
            for turn in range(8):
                one, other = source.choice(rows), source.choice(rows)
                papers = [("same", seams_by(source, one, pairs), seams_by(source, other, pairs)) for paper in range(4)]
                let = any([lets_by(one, other, pairs, paper) for paper in papers])
                apart = any([lets_by(one, other, pairs, ("apart", world, thing))
                             for world in worlds for thing in range(len(world))])
                self.assertFalse(let and apart, (one, other, pairs))
                seen[0] += let
                seen[1] += apart
                try:
                    word = paper_by(one, other, pairs)[0]
                except Full:
                    continue
                self.assertFalse(let and word == "apart")
                self.assertFalse(apart and word == "same")
        self.assertGreater(min(seen), 20)


def seams_by(source, row, pairs):
    """Some seams that can be sewn one behind the other, or some that can't."""
    sewing = Sewing(row, pairs)
    for turn in range(source.randint(0, 6)):
        seam = source.randrange(len(sewing.machine())), source.randrange(len(pairs)), source.random() < 0.5
        try:
            sewing.sew(seam if sewing.is_seam(seam) else sewing.due() or (0, 0, False))
        except (Full, LookupError):
            break
    return sewing.seams()


if __name__ == "__main__":
    unittest.main()
