"""Point [10]: walks written and read, walks times walks, and their contraries."""

import itertools
import unittest

from samples import (ODD_THINGS, all_rows, back_and_forth, places_of, some_row, some_tree, source_of, swapped, taken_out)
from undotrees.errors import NoRow, NoText, TooMany
from undotrees.walks import Walk, read_walk, walk_of


def text_of(row):
    """A row's walk as it is to be written."""
    return " ".join(place or "-" for place in places_of(row)) + " : " + (taken_out(row) or "-")


class Written(unittest.TestCase):

    def test_by_hand(self):
        for row, text in (("", "- : -"), ("a", "- a : a"), ("aA", "- a : -"), ("bBaAaB", "- a b aB : aB"),
                          ("BAab", "- B BA : -"), ("FfEecb", "- c E F cb : cb")):
            self.assertEqual(str(walk_of(row)), text)
            self.assertEqual(repr(walk_of(row)), "Walk(" + text + ")")
            self.assertEqual(read_walk(text), walk_of(row))

    def test_there_and_back(self):
        source = source_of(1)
        rows = list(all_rows("aAbB", 4)) + [some_row(source) for number in range(50)]
        for row in rows + ["a" * 60, "aB" * 30, "aA" * 30]:
            walk, text = walk_of(row), text_of(row)
            self.assertEqual(str(walk), text)
            self.assertEqual(repr(walk), f"Walk({text})")
            self.assertEqual(read_walk(text), walk)
            self.assertEqual(str(read_walk(text=text)), text)

    def test_great_trees(self):
        source = source_of(2)
        for many in (1, 2, 30, 60, 61):
            places = some_tree(source, many)
            for end in places:
                walk = Walk(places, end)
                self.assertEqual(read_walk(str(walk)), walk)

    def test_texts_that_are_not_just_so_written(self):
        for text in (
                "", " ", "-", ":", " : ", "- :", ": -", "-:-", "- : ", " : -", "- -", "- a a", "- : - : -", "- a : a : a",
                "a - : a", "- b a : a", "- ab a : a", "- a b A : a", "- aA : -",
                "- - : -", "- a a : a", "a : a", "ab : ab", "- ab : ab", "a ab : a", "- a ab abcd : a",
                "-  a : a", "- a  : a", "- a :  a", " - a : a", "- a : a ", "- a : a\n", "\n- a : a", "- a\n : a",
                "-\na : a", "- a\t: a", "- a : b", "- a : aA", "- a : ab", "- a : - a", "- a : a a", "- a : --", "- -- : -",
                "-- : -", "- g : g", "- a; : a", "- A a : a", "- a B b : b", "- a aa b : b", "Walk(- : -)", "- a -> a",
                "- a : A", "- ,a : a", "[''] : ''", "- a a: a", "- a :a", "-a : a", "- a : a :", ": - a : a"):
            with self.assertRaises(NoText) as caught:
                read_walk(text)
            self.assertEqual(caught.exception.text, text)

    def test_more_than_61_places(self):
        line = ["-"] + ["a" * many for many in range(1, 61)]
        self.assertEqual(len(read_walk(" ".join(line) + " : -")), 61)
        for text in (" ".join(line + ["a" * 61]) + " : -", "- A " + " ".join(line[1:]) + " : -", "- " * 3000):
            with self.assertRaises(NoText):
                read_walk(text)

    def test_each_other_thing(self):
        for thing in ODD_THINGS + (walk_of("a"), ["- : -"], ("- : -",), b"- : -", {"- : -": 1}):
            with self.assertRaises(NoText):
                read_walk(thing)

    def test_texts_that_are_changed_at_one_place(self):
        right = {text_of(row) for row in all_rows("aAbB", 4)}
        for text in ("- a b : b", "- a aB : -", "- A b : A"):
            for at, sign in itertools.product(range(len(text)), "-: aAbB\n"):
                other = text[:at] + sign + text[at + 1:]
                for changed in (other, text[:at] + text[at + 1:], text[:at] + sign + text[at:]):
                    if changed in right:
                        self.assertEqual(str(read_walk(changed)), changed)
                    else:
                        with self.assertRaises(NoText):
                            read_walk(changed)


class Times(unittest.TestCase):

    def check(self, one, other):
        """times of two rows' walks is the walk of both, one behind the other."""
        first, second = walk_of(one), walk_of(other)
        places = places_of(one + other)
        if len(places) > 61:
            with self.assertRaises(TooMany) as caught:
                first.times(second)
            self.assertEqual(caught.exception.many, len(places))
        else:
            product = first.times(second)
            self.assertIsInstance(product, Walk)
            self.assertEqual(product.places(), places)
            self.assertEqual(product.end(), taken_out(one + other))
        self.assertEqual((first, second), (walk_of(one), walk_of(other)))

    def test_by_hand(self):
        self.assertEqual(str(walk_of("a").times(walk_of("b"))), "- a ab : ab")
        self.assertEqual(str(walk_of("a").times(walk_of("A"))), "- a : -")
        self.assertEqual(str(walk_of("aB").times(walk_of("bcC"))), "- a aB ac : a")
        self.assertEqual(walk_of("").times(other=walk_of("")), Walk())

    def test_short_rows(self):
        for one, other in itertools.product(all_rows("aAb", 3), repeat=2):
            self.check(one, other)

    def test_some_rows(self):
        source = source_of(3)
        for number in range(150):
            self.check(some_row(source), some_row(source))
            self.check(back_and_forth(source), back_and_forth(source))
            self.check(some_row(source, 0, 30), some_row(source, 0, 30))

    def test_61_places_and_more(self):
        self.check("a" * 30, "a" * 30)
        self.check("a" * 30, "a" * 31)
        self.check("a" * 60, "")
        self.check("", "a" * 60)
        self.check("a" * 60, "A" * 60)
        self.check("a" * 60, "b")
        self.check("a" * 60, "a" * 60)
        self.check("aB" * 30, "cD" * 30)
        with self.assertRaises(TooMany) as caught:
            walk_of("a" * 60).times(walk_of("b" * 60))
        self.assertEqual(caught.exception.many, 121)

    def test_trees_that_are_greater_than_rows_walk(self):
        source = source_of(4)
        for number in range(50):
            first = Walk(some_tree(source, source.randint(1, 61), "aAbB"))
            second = Walk(some_tree(source, source.randint(1, 61), "aAbB"))
            end = source.choice(first.places())
            first = Walk(first.places(), end)
            places = set(first.places()) | {taken_out(end + place) for place in second.places()}
            if len(places) > 61:
                with self.assertRaises(TooMany) as caught:
                    first.times(second)
                self.assertEqual(caught.exception.many, len(places))
            else:
                self.assertEqual(first.times(second), Walk(list(places), taken_out(end + second.end())))

    def test_whatever_rows_walk_them(self):
        for one, others in (("aAbB", ["bBaA", "bBaAbB"]), ("a", ["aAa", "aAaAa"])):
            for other in others:
                self.assertEqual(walk_of(one).times(walk_of("cb")), walk_of(other).times(walk_of("cb")))
                self.assertEqual(walk_of("cb").times(walk_of(one)), walk_of("cb").times(walk_of(other)))

    def test_three_walks_however_taken_together(self):
        source = source_of(5)
        for number in range(100):
            one, two, three = [walk_of(some_row(source, 0, 20)) for walk in range(3)]
            self.assertEqual(one.times(two).times(three), one.times(two.times(three)))

    def test_one_that_only_stays_changes_nothing(self):
        source = source_of(6)
        for number in range(20):
            walk = walk_of(some_row(source))
            self.assertEqual(Walk().times(walk), walk)
            self.assertEqual(walk.times(Walk()), walk)
            self.assertIsNot(walk.times(Walk()), walk)

    def test_a_told_list_of_it_is_the_askers_own(self):
        one, other = walk_of("ab"), walk_of("c")
        product = one.times(other)
        product.places().clear()
        self.assertEqual(str(product), "- a ab abc : abc")


class Contrary(unittest.TestCase):

    def test_by_hand(self):
        for row, text in (("", "- : -"), ("a", "- A : A"), ("aA", "- a : -"), ("abB", "- A b : A"),
                          ("abcC", "- B c BA : BA")):
            self.assertEqual(str(walk_of(row).contrary()), text)

    def test_the_walk_of_the_contraries(self):
        source = source_of(7)
        rows = list(all_rows("aAbB", 4)) + [some_row(source) for number in range(100)]
        for row in rows + [back_and_forth(source) for number in range(100)]:
            walk = walk_of(row)
            self.assertEqual(walk.contrary(), walk_of(swapped(row)))
            self.assertEqual(walk.contrary().contrary(), walk)
            self.assertEqual(walk, walk_of(row))

    def test_great_trees(self):
        source = source_of(8)
        for many in (1, 2, 31, 60, 61):
            places = some_tree(source, many)
            for end in places[:10]:
                walk = Walk(places, end)
                turned = walk.contrary()
                self.assertEqual(set(turned.places()), {taken_out(swapped(end) + place) for place in places})
                self.assertEqual(turned.end(), swapped(end))
                self.assertEqual(turned.contrary(), walk)
                self.assertEqual(len(walk.times(turned)), many)

    def test_a_walk_its_contrary_and_it_again(self):
        source = source_of(9)
        for number in range(100):
            walk = walk_of(some_row(source))
            self.assertEqual(walk.times(walk.contrary()).times(walk), walk)

    def test_the_contrary_of_two(self):
        source = source_of(10)
        for number in range(50):
            one, other = walk_of(some_row(source, 0, 30)), walk_of(some_row(source, 0, 30))
            self.assertEqual(one.times(other).contrary(), other.contrary().times(one.contrary()))

    def test_a_new_one_is_told(self):
        walk = walk_of("aA")
        self.assertEqual(walk.contrary(), walk)
        self.assertIsNot(walk.contrary(), walk)


class Looking(unittest.TestCase):
    """Of point [16]: what ends where it began."""

    def test_a_row_with_its_contrary_behind_it_ends_where_it_began(self):
        source = source_of(11)
        for number in range(100):
            row = some_row(source, 0, 30)
            self.assertEqual(walk_of(row + swapped(row)).end(), "")
            self.assertEqual(walk_of(row + swapped(row)).places(), places_of(row))

    def test_two_that_only_look_may_change_places(self):
        source = source_of(12)
        for number in range(100):
            one, other = [walk_of(row + swapped(row)) for row in (some_row(source, 0, 15), some_row(source, 0, 15))]
            self.assertEqual(one.times(other), other.times(one))
            self.assertEqual(one.times(one), one)
        self.assertNotEqual(walk_of("a").times(walk_of("bB")), walk_of("bB").times(walk_of("a")))


class Refused(unittest.TestCase):

    def test_a_refusal_changes_nothing(self):
        long, other = walk_of("a" * 60), walk_of("b")
        for number in range(2):
            with self.assertRaises(TooMany) as caught:
                long.times(other)
            self.assertEqual(caught.exception.many, 62)
        with self.assertRaises(NoRow):
            walk_of("a" * 61)
        self.assertEqual((long, other), (walk_of("a" * 60), walk_of("b")))


if __name__ == "__main__":
    unittest.main()
