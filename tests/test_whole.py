"""Point [4], the promise, over the whole program."""

import itertools
import unittest

from samples import (ALL_SIGNS, all_rows, back_and_forth, done, put_in, shape_of, some_pairs, some_row, some_walking,
                     some_world, source_of, swapped)
from undotrees.chains import chain, is_chain
from undotrees.desk import Desk
from undotrees.errors import Full
from undotrees.folding import folded, tells
from undotrees.given import is_told, lets_paper, paper_for
from undotrees.logs import Log
from undotrees.machines import Machine
from undotrees.pairs import lets_by, paper_by
from undotrees.rows import contrary, plain
from undotrees.sewing import Sewing
from undotrees.shortest import shortest_at, shortest_many, shortest_number, signs_many
from undotrees.trees import code_of, tree_at, tree_number
from undotrees.unlike import same, tells_unlike, unlike
from undotrees.walks import Walk, read_walk, walk_of
from undotrees.within import does_more, is_within, not_within, only_looks


def word(row):
    return row or "-"


def log_of(row):
    log = Log()
    log.do(row)
    return log


def all_answers(one, other):
    """Whether two rows are the same, by all ways in which the program tells it."""
    first, second = walk_of(one), walk_of(other)
    steps, world = chain(one, other), unlike(one, other)
    desk = Desk()
    desk.say("log one")
    desk.say("log other")
    desk.say("do one " + word(one))
    desk.say("do other " + word(other))
    return {
        "same": same(one, other),
        "walks": first == second,
        "texts": str(first) == str(second) and repr(first) == repr(second),
        "read": read_walk(str(first)) == second,
        "contraries": first.contrary() == second.contrary() and same(contrary(one), contrary(other)),
        "shortest": shortest_at(first) == shortest_at(second) and plain(one) == plain(other),
        "all shortest": shortest_number(first, shortest_at(second)) is not None
                        and shortest_number(second, shortest_at(first)) is not None,
        "chain": steps is not None and is_chain(one, other, steps),
        "world": world is None or not tells_unlike(one, other, world),
        "in worlds": first.world().same(one, other) and second.world().same(one, other),
        "within": is_within(one, other) and is_within(other, one) and plain(one) == plain(other),
        "not within": not_within(one, other) is None and not_within(other, one) is None and plain(one) == plain(other),
        "does more": does_more(one, other) and does_more(other, one),
        "logs": log_of(one) == log_of(other),
        "short rows": log_of(one).short() == log_of(other).short(),
        "desk": desk.say(f"same {word(one)} {word(other)}") == "yes",
        "desk's trees": desk.say("tree " + word(one)) == desk.say("tree " + word(other)),
        "desk's short rows": desk.say("short " + word(one)) == desk.say("short " + word(other)),
        "desk's more": [desk.say(f"more {word(row)} {word(last)}") for row, last in ((one, other), (other, one))] == ["yes"] * 2,
        "desk's logs": desk.say("brief one") == desk.say("brief other"),
    }


class TheSame(unittest.TestCase):

    def check(self, one, other):
        truth = shape_of(one) == shape_of(other)
        answers = all_answers(one, other)
        self.assertEqual(answers, {name: truth for name in answers}, (one, other))
        steps, world = chain(one, other), unlike(one, other)
        # Never a chain and a world; the world has no more things than the greater tree has places.
        self.assertEqual((steps is None, world is None), (not truth, truth))
        if world:
            self.assertLessEqual(len(world[0]), max(len(walk_of(one)), len(walk_of(other))))
            laid = world[0].laid()
            self.assertNotEqual(done(laid, one, world[1]), done(laid, other, world[1]))
        else:
            self.assertLessEqual(len(steps), 8000)
        if max(len(walk_of(one)), len(walk_of(other))) <= 40:
            self.assertEqual(Sewing(one).tells(other) and Sewing(other).tells(one), truth)
            paper = paper_by(one, other)
            self.assertEqual(paper[0], "same" if truth else "apart")
            self.assertIs(lets_by(one, other, None, paper), True)
        return truth

    def test_all_short_rows(self):
        rows = list(all_rows("aAbB", 2)) + ["aAb", "baA", "aAa", "AaA", "abB", "aBb", "bBa"]
        truths = [self.check(one, other) for one, other in itertools.product(rows, repeat=2)]
        self.assertGreater(truths.count(True), len(rows))

    def test_some_rows(self):
        source = source_of(1)
        truths = []
        for number in range(150):
            one = source.choice((some_row(source, 0, 20), back_and_forth(source, source.randint(0, 30))))
            walk = walk_of(one)
            alike = [some_walking(source, walk.places(), walk.end()), put_in(source, one[:20]) + one[20:], one]
            unlikes = [some_row(source, 0, 5), one[:-1], one + "a", plain(one)]
            other = source.choice(alike + unlikes)
            if len(other) <= 60:
                truths.append(self.check(one, other))
        self.assertGreater(min(truths.count(True), truths.count(False)), 30)

    def test_sixty_signs(self):
        source = source_of(2)
        for number in range(10):
            one = back_and_forth(source, 60)
            walk = walk_of(one)
            self.assertIs(self.check(one, some_walking(source, walk.places(), walk.end())), True)
            self.check(one, back_and_forth(source, 60))
        self.check("ab" * 30, "ab" * 29 + "aB")
        self.check("ab" * 30, "ab" * 30)

    def test_in_whatever_world(self):
        source = source_of(3)
        worlds = [some_world(source, 5) for number in range(60)]
        rows = list(all_rows("aAbB", 3))
        for number in range(300):
            one, other = source.choice(rows), source.choice(rows)
            alike = all(world.same(one, other) for world, laid in worlds)
            if same(one, other):
                self.assertTrue(alike)
            for world, laid in worlds[:10]:
                for thing in range(len(world)):
                    if tells_unlike(one, other, (world, thing)):
                        self.assertFalse(same(one, other))
                        self.assertIsNone(chain(one, other))
                        self.assertNotEqual(done(laid, one, thing), done(laid, other, thing))


def some_names(source):
    """For each sign another one: deeds exchanged, one by one, and some of them with their undoings."""
    deeds = list("abcdef")
    source.shuffle(deeds)
    names = {}
    for deed, other in zip("abcdef", deeds):
        if source.random() < 0.5:
            other = other.upper()
        names[deed], names[deed.upper()] = other, swapped(other)
    return names


def called(names, row):
    return "".join(names[sign] for sign in row)


class CalledOtherwise(unittest.TestCase):

    def test_of_two_rows(self):
        source = source_of(4)
        for number in range(60):
            one = some_row(source, 0, 8)
            other = source.choice((put_in(source, one), some_row(source, 0, 3), one + "aA", plain(one)))
            names = some_names(source)
            first, second = called(names, one), called(names, other)
            self.assertEqual(all_answers(first, second), all_answers(one, other))
            self.assertEqual(called(names, plain(one)), plain(first))
            for ask in (is_within, does_more):
                self.assertIs(ask(first, second), ask(one, other))
            self.assertIs(only_looks(first), only_looks(one))
            self.assertEqual({called(names, place) for place in walk_of(one).places()}, set(walk_of(first).places()))
            self.assertEqual(shortest_many(walk_of(first)), shortest_many(walk_of(one)))
            self.assertEqual(signs_many(walk_of(first)), signs_many(walk_of(one)))

    def test_by_given_rows(self):
        source = source_of(5)
        truths = []
        for number in range(80):
            rows = [some_row(source, 0, 4) for row in range(source.randint(1, 4))]
            row = source.choice((some_row(source, 0, 4), rows[0] + swapped(rows[-1]), back_and_forth(source, 6)))
            names = some_names(source)
            told = is_told(rows, row)
            others, other = [called(names, each) for each in rows], called(names, row)
            self.assertIs(is_told(others, other), told)
            self.assertEqual(paper_for(others, other)[0], paper_for(rows, row)[0])
            self.assertIs(lets_paper(others, other, paper_for(others, other)), True)
            asks = [" ".join(["told"] + [word(each) for each in [last] + given]) for last, given in ((row, rows), (other, others))]
            self.assertEqual([Desk().say(ask) for ask in asks], ["yes" if told else "no"] * 2)
            truths.append(told)
        self.assertGreater(min(truths.count(True), truths.count(False)), 15)

    def test_by_told_pairs(self):
        # What is due may be another seam, so only where a paper is told of both are they compared.
        source = source_of(6)
        words = []
        for number in range(120):
            pairs = some_pairs(source)
            head = some_row(source, 0, 2)
            one, other = [head + row for row in source.choice(pairs + [("a", "ab")])]
            names = some_names(source)
            renamed = [tuple(called(names, row) for row in pair) for pair in pairs]
            try:
                papers = paper_by(one, other, pairs), paper_by(called(names, one), called(names, other), renamed)
            except Full:
                continue
            self.assertEqual(papers[0][0], papers[1][0])
            self.assertIs(lets_by(called(names, one), called(names, other), renamed, papers[1]), True)
            words.append(papers[0][0])
        self.assertGreater(min(words.count("same"), words.count("apart")), 15)

    def test_in_a_world(self):
        source = source_of(7)
        for number in range(40):
            world, laid = some_world(source)
            names = some_names(source)
            other = type(world)(len(world))
            for deed, one, last in laid:
                sign = names[deed]
                other.lay(*((sign, one, last) if sign.islower() else (sign.lower(), last, one)))
            for turn in range(10):
                row = some_row(source, 0, 4)
                self.assertEqual(world.pairs(row), other.pairs(called(names, row)))


class TheRest(unittest.TestCase):

    def test_a_walk_has_a_row(self):
        source = source_of(8)
        for number in range(60):
            row = some_row(source, 0, 14)
            walk = walk_of(row)
            last = shortest_many(walk) - 1
            for short in {shortest_at(walk), shortest_at(walk, last), shortest_at(walk, last // 2)}:
                if len(short) <= 60:
                    self.assertEqual(walk_of(short), walk)
                    self.assertTrue(same(short, row))
            places = [place for place in walk.places() if set(place) <= set("aAbB")]
            tree = Walk(places)
            self.assertEqual(tree_at(len(tree), tree_number(tree)), tree)
            self.assertEqual(len(code_of(tree)), len(tree))

    def test_what_only_looks_may_change_places(self):
        source = source_of(9)
        for number in range(100):
            one, other = [row + swapped(row) for row in (some_row(source, 0, 7), some_row(source, 0, 7))]
            self.assertTrue(only_looks(one) and only_looks(other) and only_looks(one + other))
            self.assertTrue(same(one + other, other + one))
            self.assertTrue(is_chain(one + other, other + one, chain(one + other, other + one)))

    def test_a_machine_of_a_row_tells_what_does_more(self):
        source = source_of(10)
        rows = list(all_rows("aAb", 4))
        for number in range(25):
            row = source.choice(rows)
            signs = list(enumerate(row))
            ways = [(at, sign, at + 1) if sign.islower() else (at + 1, sign.lower(), at) for at, sign in signs]
            machine = Machine(len(row) + 1, ways, len(row))
            self.assertEqual(Sewing(row).machine(), folded(machine)[0])
            for other in rows:
                self.assertIs(tells(machine, other), does_more(other, row))
                self.assertIs(Sewing(row).tells(other), does_more(other, row))

    def test_no_pairs_tell_no_more_than_told_ones(self):
        source = source_of(11)
        for number in range(60):
            pairs = some_pairs(source)
            one = some_row(source, 0, 5)
            other = put_in(source, one)
            self.assertTrue(same(one, other))
            self.assertEqual(paper_by(one, other, pairs), ("same", [], []))

    def test_a_log_that_was_taken_back_only_looks(self):
        source = source_of(12)
        for number in range(60):
            row = some_row(source, 1, 20)
            log = log_of(row)
            log.back(len(row))
            self.assertTrue(only_looks(log.row()))
            self.assertTrue(same(log.row(), row + contrary(row)))
            self.assertEqual(log.walk(), walk_of(row).times(walk_of(row).contrary()))
            self.assertEqual(len(set(log.row()) - set(ALL_SIGNS)), 0)


if __name__ == "__main__":
    unittest.main()
