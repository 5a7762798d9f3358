"""Point [15]: the codes of trees, how many there are, and their numbers."""

import unittest

from samples import Hostile, some_row, some_tree, source_of, swapped
from undotrees.errors import NoNumber, NoSign
from undotrees.trees import code_of, tree_at, tree_number, trees_many
from undotrees.walks import Walk, walk_of

SIGNS = "aAbBcC"

ODD_NUMBERS = (True, False, None, "", "1", "a", 1.0, 2.0, [], [1], (1,), {}, {1: 1}, b"1", object(), Hostile())


def all_trees(places, deeds):
    """All trees of so many places: each of those with one place less, with one place more."""
    trees = {("",)}
    for many in range(places - 1):
        trees = {tuple(sorted(tree + (place + sign,))) for tree in trees for place in tree for sign in SIGNS[:2 * deeds]
                 if place[-1:] != swapped(sign) and place + sign not in tree}
    return trees


def code(tree, deeds, place=""):
    """The code of a tree: a place's mark, and then all that lies beyond it, sign by sign."""
    signs = [sign for sign in SIGNS[:2 * deeds] if sign != swapped(place[-1:])]
    marks = [sum(2 ** number for number, sign in enumerate(signs) if place + sign in tree)]
    for sign in signs:
        if place + sign in tree:
            marks += code(tree, deeds, place + sign)
    return marks


SIZES = ((1, 12), (2, 6), (3, 5))


class Codes(unittest.TestCase):

    def test_by_hand(self):
        for row, deeds, marks in (
                ("", 1, [0]), ("", 2, [0]), ("", 3, [0]), ("a", 1, [1, 0]), ("A", 1, [2, 0]), ("aAA", 1, [3, 0, 0]),
                ("aa", 1, [1, 1, 0]), ("AA", 1, [2, 1, 0]), ("b", 2, [4, 0]), ("B", 2, [8, 0]), ("ab", 2, [1, 2, 0]),
                # From a one goes on by a, b and B; from A by A, b and B; from b by a, A and b.
                ("aB", 2, [1, 4, 0]), ("AB", 2, [2, 4, 0]), ("bb", 2, [4, 4, 0]), ("ba", 2, [4, 1, 0]),
                ("bA", 2, [4, 2, 0]), ("BB", 2, [8, 4, 0]), ("aAbB", 2, [5, 0, 0]), ("aAAabBB", 2, [15, 0, 0, 0, 0]),
                ("abBAbB", 2, [5, 2, 0, 0]), ("aAbaAB", 2, [5, 0, 1, 0]), ("C", 3, [32, 0]), ("cC", 3, [16, 0]),
                ("CC", 3, [32, 16, 0]), ("Ab", 3, [2, 2, 0]), ("abBcCBb", 3, [1, 14, 0, 0, 0])):
            walk = walk_of(row) if row != "aAAabBB" else Walk(["", "a", "A", "b", "B"])
            self.assertEqual(code_of(walk, deeds), marks, (row, deeds))

    def test_small_trees(self):
        for deeds, most in SIZES:
            for many in range(1, most + 1):
                for tree in all_trees(many, deeds):
                    self.assertEqual(code_of(Walk(tree), deeds), code(tree, deeds))

    def test_whatever_the_end(self):
        places = ["", "a", "B", "ab", "aB"]
        self.assertEqual({tuple(code_of(Walk(places, end))) for end in places}, {(9, 6, 0, 0, 0)})

    def test_great_trees(self):
        source = source_of(1)
        for many in (39, 40, 41, 60, 61):
            for deeds in (1, 2, 3):
                tree = some_tree(source, many, SIGNS[:2 * deeds])
                self.assertEqual(code_of(Walk(tree), deeds), code(tree, deeds))
                self.assertEqual(len(code_of(Walk(tree), deeds)), many)

    def test_more_deeds_than_stand_in_it(self):
        self.assertEqual(code_of(walk_of("a"), 1), [1, 0])
        self.assertEqual(code_of(walk_of("AA"), 3), [2, 1, 0])

    def test_two_deeds_where_none_are_told(self):
        self.assertEqual(code_of(walk_of("bB")), [4, 0])
        with self.assertRaises(NoSign):
            code_of(walk_of("cC"))

    def test_odd_deeds(self):
        for deeds in (0, 4, 6, -1, 10 ** 60) + ODD_NUMBERS:
            for walk in (Walk(), walk_of("f")):
                with self.assertRaises(NoNumber) as caught:
                    code_of(walk, deeds)
                self.assertIs(caught.exception.number, deeds)

    def test_signs_of_other_deeds(self):
        for row, deeds in (("b", 1), ("aB", 1), ("aaAbBa", 1), ("c", 2), ("abC", 2), ("d", 3), ("aAbBfFc", 3)):
            with self.assertRaises(NoSign) as caught:
                code_of(walk_of(row), deeds)
            self.assertIsNone(caught.exception.place)

    def test_each_told_list_is_the_askers_own(self):
        walk = walk_of("ab")
        told = code_of(walk)
        told[0] = 99
        told.append(5)
        self.assertEqual(code_of(walk), [1, 2, 0])
        self.assertEqual(walk, walk_of("ab"))

    def test_arguments_by_name(self):
        self.assertEqual(code_of(walk=walk_of("c"), deeds=3), [16, 0])
        self.assertEqual(code_of(deeds=1, walk=walk_of("a")), [1, 0])


class Many(unittest.TestCase):

    def test_by_counting(self):
        for deeds, most in SIZES:
            for many in range(1, most + 1):
                self.assertEqual(trees_many(many, deeds), len(all_trees(many, deeds)))

    def test_one_deed(self):
        # A line, of which the row without signs may be any place.
        self.assertEqual([trees_many(many, 1) for many in range(1, 41)], list(range(1, 41)))

    def test_up_to_forty_places(self):
        for deeds in (2, 3):
            numbers = [trees_many(many, deeds) for many in range(1, 41)]
            self.assertEqual(numbers, sorted(set(numbers)))
            self.assertEqual(numbers, [self.counted(many, deeds) for many in range(1, 41)])

    def counted(self, places, deeds):
        """Trees counted by the sizes of their branches, sign by sign."""
        def beyond(signs, left, branch):
            ways = [1] + [0] * left
            for sign in range(signs):
                ways = [sum(ways[many - size] * (branch[size] if size else 1) for size in range(many + 1))
                        for many in range(left + 1)]
            return ways
        branch = [0, 1]
        while len(branch) < places:
            branch.append(beyond(2 * deeds - 1, len(branch) - 1, branch)[-1])
        return beyond(2 * deeds, places - 1, branch)[-1]

    def test_two_deeds_where_none_are_told(self):
        self.assertEqual([trees_many(many) for many in range(1, 5)], [1, 4, 18, 88])

    def test_odd_numbers(self):
        for thing in (0, 4, -1, 10 ** 60) + ODD_NUMBERS:
            for places in (1, 40, 0, None, 41):
                with self.assertRaises(NoNumber) as caught:
                    trees_many(places, thing)
                self.assertIs(caught.exception.number, thing)
        for thing in (0, -1, 41, 61, 10 ** 60) + ODD_NUMBERS:
            for deeds in (1, 2, 3):
                with self.assertRaises(NoNumber) as caught:
                    trees_many(thing, deeds)
                self.assertIs(caught.exception.number, thing)

    def test_arguments_by_name(self):
        self.assertEqual(trees_many(places=2, deeds=3), 6)
        self.assertEqual(trees_many(deeds=1, places=7), 7)


class Numbers(unittest.TestCase):

    def test_as_python_sorts_the_codes(self):
        for deeds, most in SIZES:
            for many in range(1, min(most, 5) + 1):
                trees = sorted(all_trees(many, deeds), key=lambda tree: code(tree, deeds))
                told = [tree_at(many, number, deeds) for number in range(len(trees))]
                self.assertEqual(told, [Walk(tree) for tree in trees])
                self.assertEqual([tree_number(walk, deeds) for walk in told], list(range(len(trees))))

    def test_the_first_the_last_and_one_beyond(self):
        for deeds in (1, 2, 3):
            for many in range(1, 41):
                trees = trees_many(many, deeds)
                for number in (0, trees - 1):
                    walk = tree_at(many, number, deeds)
                    self.assertEqual((len(walk), walk.end()), (many, ""))
                    self.assertEqual(tree_number(walk, deeds), number)
                for number in (-1, trees, trees + 1):
                    with self.assertRaises(NoNumber) as caught:
                        tree_at(many, number, deeds)
                    self.assertEqual(caught.exception.number, number)

    def test_great_ones_there_and_back(self):
        source = source_of(2)
        for number in range(40):
            deeds, many = source.randint(2, 3), source.randint(20, 40)
            numbers = sorted(source.randrange(trees_many(many, deeds)) for place in range(4))
            walks = [tree_at(many, number, deeds) for number in numbers]
            self.assertEqual([tree_number(walk, deeds) for walk in walks], numbers)
            codes = [code(walk.places(), deeds) for walk in walks]
            self.assertEqual(codes, sorted(codes))
            tree = some_tree(source, many, SIGNS[:2 * deeds])
            walk = Walk(tree, source.choice(tree))
            self.assertEqual(tree_at(many, tree_number(walk, deeds), deeds), Walk(tree))

    def test_neighbours(self):
        source = source_of(3)
        for number in range(10):
            begin = source.randrange(trees_many(30, 3) - 30)
            codes = [code_of(tree_at(30, begin + step, 3), 3) for step in range(30)]
            self.assertEqual(codes, sorted(codes))
            self.assertEqual(len({tuple(each) for each in codes}), 30)

    def test_the_deeds_left_out(self):
        self.assertEqual([str(tree_at(2, number)) for number in range(4)], ["- a : -", "- A : -", "- b : -", "- B : -"])
        self.assertEqual([tree_number(walk_of(row)) for row in ("a", "A", "b", "B")], [0, 1, 2, 3])

    def test_numbers_for_which_there_is_none(self):
        for thing in (-1, 18, 10 ** 60) + ODD_NUMBERS:
            with self.assertRaises(NoNumber) as caught:
                tree_at(3, thing)
            self.assertIs(caught.exception.number, thing)

    def test_the_deeds_then_the_places_then_the_number(self):
        for deeds in (0, 4, -1) + ODD_NUMBERS:
            for places, number in ((1, 0), (0, 0), (None, None), (41, -1)):
                with self.assertRaises(NoNumber) as caught:
                    tree_at(places, number, deeds)
                self.assertIs(caught.exception.number, deeds)
        for places in (0, 41, 61, -1, 10 ** 60) + ODD_NUMBERS:
            for number in (0, -1, None, Hostile()):
                with self.assertRaises(NoNumber) as caught:
                    tree_at(places, number, 2)
                self.assertIs(caught.exception.number, places)

    def test_odd_deeds_and_signs_of_other_ones(self):
        source = source_of(4)
        great = Walk(some_tree(source, 50))
        for deeds in (0, 4, -1) + ODD_NUMBERS:
            for walk in (Walk(), walk_of("f"), great):
                with self.assertRaises(NoNumber) as caught:
                    tree_number(walk, deeds)
                self.assertIs(caught.exception.number, deeds)
        for walk, deeds in ((walk_of("b"), 1), (walk_of("c"), 2), (walk_of("aD"), 3), (great, 3)):
            with self.assertRaises(NoSign) as caught:
                tree_number(walk, deeds)
            self.assertIsNone(caught.exception.place)

    def test_more_than_forty_places(self):
        source = source_of(5)
        for many in (41, 42, 60, 61):
            for deeds in (1, 2, 3):
                with self.assertRaises(NoNumber) as caught:
                    tree_number(Walk(some_tree(source, many, SIGNS[:2 * deeds])), deeds)
                self.assertEqual(caught.exception.number, many)
        self.assertEqual(tree_number(walk_of("a" * 39), 1), 0)

    def test_whatever_the_end(self):
        source = source_of(6)
        for number in range(20):
            walk = walk_of("".join(sign for sign in some_row(source) if sign in "aAbB")[:39])
            self.assertEqual(tree_at(len(walk), tree_number(walk)).places(), walk.places())

    def test_told_walks_are_new(self):
        self.assertIsNot(tree_at(3, 5), tree_at(3, 5))
        self.assertEqual(tree_at(3, 5), tree_at(3, 5))

    def test_arguments_by_name(self):
        self.assertEqual(tree_at(places=2, number=4, deeds=3), walk_of("cC"))
        self.assertEqual(tree_at(deeds=1, number=1, places=2), walk_of("Aa"))
        self.assertEqual(tree_number(walk=walk_of("cC"), deeds=3), 4)
        self.assertEqual(tree_number(deeds=1, walk=walk_of("A")), 1)


if __name__ == "__main__":
    unittest.main()
