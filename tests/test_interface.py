"""The interface: each name of it, its arguments by their names and places, and point [2] for what is told and handed in."""

import copy
import importlib
import inspect
import unittest

from samples import source_of
from undotrees.desk import Desk
from undotrees.logs import Log
from undotrees.machines import Machine
from undotrees.sewing import Sewing
from undotrees.walks import Walk, walk_of
from undotrees.worlds import World

# Each function and class with its arguments as the interface writes them.
FUNCTIONS = {
    "rows": ("is_row(thing)", "contrary(row)", "plain(row)", "deeds_of(row)", "before(one, other)",
             "number_of(row, deeds=2)", "row_at(number, deeds=2)"),
    "worlds": ("World(things=0)",),
    "walks": ("Walk(places=None, end='')", "walk_of(row)", "read_walk(text)"),
    "unlike": ("same(one, other)", "unlike(one, other)", "tells_unlike(one, other, thing)"),
    "steps": ("is_long_row(thing)", "stepped(row, step)", "led_on(row, steps)"),
    "chains": ("chain(one, other)", "is_chain(one, other, thing)"),
    "shortest": ("signs_many(walk)", "shortest_many(walk)", "shortest_at(walk, number=0)",
                 "shortest_number(walk, thing)"),
    "trees": ("code_of(walk, deeds=2)", "trees_many(places, deeds=2)", "tree_at(places, number, deeds=2)",
              "tree_number(walk, deeds=2)"),
    "within": ("is_within(one, other)", "not_within(one, other)", "only_looks(row)", "does_more(one, other)",
               "both(one, other)", "common(one, other)"),
    "machines": ("Machine(rooms=1, ways=None, goal=0)",),
    "folding": ("folded(machine)", "tells(machine, row)", "lets_folds(machine, row, thing)", "folds_for(machine, row)"),
    "given": ("machine_of(rows)", "is_told(rows, row)", "paper_for(rows, row)", "lets_paper(rows, row, thing)"),
    "sewing": ("Sewing(row, pairs=None, most=40)",),
    "pairs": ("paper_by(one, other, pairs=None, most=40)", "lets_by(one, other, pairs, thing)"),
    "logs": ("Log()",),
    "desk": ("Desk()",),
}

METHODS = {
    World: ("add(self)", "lift(self, deed, thing)", "lay(self, deed, one, other)", "laid(self)", "copy(self)",
            "led(self, row, thing)", "pairs(self, row)", "same(self, one, other)"),
    Walk: ("places(self)", "end(self)", "times(self, other)", "contrary(self)", "world(self)"),
    Machine: ("rooms(self)", "ways(self)", "goal(self)", "runs(self, row)", "is_straight(self)", "folds(self)",
              "fold(self, one, other)"),
    Sewing: ("machine(self)", "is_seam(self, thing)", "sew(self, seam)", "due(self)", "sew_next(self)", "seams(self)",
             "tells(self, row)"),
    Log: ("do(self, row)", "back(self, many=1)", "back_to(self, name)", "mark(self, name)", "row(self)",
          "standing(self)", "short(self)", "marks(self)", "walk(self)", "led(self, world, thing)", "copy(self)"),
    Desk: ("say(self, row)",),
}

DOUBLE = {World: ("__len__", "__eq__"), Walk: ("__len__", "__eq__", "__str__", "__repr__"),
          Machine: ("__len__", "__eq__"), Sewing: ("__len__",), Log: ("__len__", "__eq__"), Desk: ()}


def asked():
    """For each function of the interface some of its arguments, by name; all made anew."""
    machine = Machine(4, [(0, "a", 1), (0, "a", 2), (2, "b", 3)], 3)
    world = walk_of("ab").world()
    return {
        "rows": [("is_row", {"thing": "ab"}), ("contrary", {"row": "ab"}), ("plain", {"row": "abB"}),
                 ("deeds_of", {"row": "bA"}), ("before", {"one": "a", "other": "A"}),
                 ("number_of", {"row": "bA", "deeds": 3}), ("row_at", {"number": 77, "deeds": 3})],
        "worlds": [("World", {"things": 3})],
        "walks": [("Walk", {"places": ["a", "", "ab"], "end": "a"}), ("walk_of", {"row": "abBA"}),
                  ("read_walk", {"text": "- a : -"})],
        "unlike": [("same", {"one": "aAa", "other": "a"}), ("unlike", {"one": "ab", "other": "ba"}),
                   ("tells_unlike", {"one": "ab", "other": "ba", "thing": (world, 0)})],
        "steps": [("is_long_row", {"thing": "a" * 4000}), ("stepped", {"row": "ab", "step": ("more", 0, 2)}),
                  ("led_on", {"row": "ab", "steps": [("more", 0, 2), ("less", 0, 2)]})],
        "chains": [("chain", {"one": "aAbB", "other": "bBaA"}),
                   ("is_chain", {"one": "aAbB", "other": "bBaA", "thing": [("past", 0, 1, 1)]})],
        "shortest": [("signs_many", {"walk": walk_of("aAbB")}), ("shortest_many", {"walk": walk_of("aAbB")}),
                     ("shortest_at", {"walk": walk_of("aAbB"), "number": 1}),
                     ("shortest_number", {"walk": walk_of("aAbB"), "thing": "bBaA"})],
        "trees": [("code_of", {"walk": walk_of("aAb"), "deeds": 3}), ("trees_many", {"places": 5, "deeds": 3}),
                  ("tree_at", {"places": 5, "number": 99, "deeds": 3}),
                  ("tree_number", {"walk": walk_of("aAb"), "deeds": 3})],
        "within": [("is_within", {"one": "a", "other": "ab"}), ("not_within", {"one": "ab", "other": "a"}),
                   ("only_looks", {"row": "aA"}), ("does_more", {"one": "a", "other": "bBa"}),
                   ("both", {"one": walk_of("aA"), "other": walk_of("bB")}),
                   ("common", {"one": walk_of("aAbB"), "other": walk_of("bB")})],
        "machines": [("Machine", {"rooms": 2, "ways": [(0, "a", 1), (1, "b", 0)], "goal": 1})],
        "folding": [("folded", {"machine": machine}), ("tells", {"machine": machine, "row": "ab"}),
                    ("lets_folds", {"machine": machine, "row": "ab", "thing": [(0, 1)]}),
                    ("folds_for", {"machine": machine, "row": "ab"})],
        "given": [("machine_of", {"rows": ["ab", "c"]}), ("is_told", {"rows": ["ab", "c"], "row": "BA"}),
                  ("paper_for", {"rows": ["ab", "ac"], "row": "Bc"}), ("paper_for", {"rows": ["ab", "c"], "row": "ba"}),
                  ("lets_paper", {"rows": ["ab", "ac"], "row": "Bc", "thing": ("told", [(0, 1)])}),
                  ("lets_paper", {"rows": ["ab"], "row": "b", "thing": ("apart", world, 0)})],
        "sewing": [("Sewing", {"row": "ab", "pairs": [("ab", "ba")], "most": 4})],
        "pairs": [("paper_by", {"one": "ab", "other": "ba", "pairs": [("ab", "ba")], "most": 4}),
                  ("paper_by", {"one": "ab", "other": "b", "pairs": [("ab", "ba")], "most": 4}),
                  ("lets_by", {"one": "a", "other": "a", "pairs": [("b", "a")],
                               "thing": ("same", [(0, 0, True)], [(0, 0, True)])}),
                  ("lets_by", {"one": "a", "other": "b", "pairs": [("e", "f")], "thing": ("apart", world, 0)})],
        "logs": [("Log", {})],
        "desk": [("Desk", {})],
    }


def objects():
    """Some objects, made anew, each with what is asked of it, by name, one behind the other."""
    world = walk_of("abBA").world()
    return [
        (World(3), [("add", {}), ("lay", {"deed": "a", "one": 0, "other": 1}), ("laid", {}), ("copy", {}),
                    ("lay", {"deed": "c", "one": 0, "other": 0}), ("led", {"row": "ca", "thing": 0}),
                    ("pairs", {"row": "cC"}), ("same", {"one": "c", "other": "C"}), ("lift", {"deed": "a", "thing": 0})]),
        (walk_of("abB"), [("places", {}), ("end", {}), ("times", {"other": walk_of("Ac")}), ("contrary", {}), ("world", {})]),
        (Machine(3, [(0, "a", 1), (0, "a", 2)], 2), [("rooms", {}), ("ways", {}), ("goal", {}), ("runs", {"row": "a"}),
                                                     ("is_straight", {}), ("folds", {}), ("fold", {"one": 2, "other": 1})]),
        (Sewing("ab", [("ab", "ba")]), [("machine", {}), ("is_seam", {"thing": (0, 0, False)}), ("due", {}),
                                        ("sew", {"seam": (0, 0, False)}), ("sew_next", {}), ("seams", {}),
                                        ("tells", {"row": "ba"}), ("machine", {})]),
        (Log(), [("do", {"row": "ab"}), ("mark", {"name": "x"}), ("do", {"row": "c"}), ("back", {"many": 1}), ("marks", {}),
                 ("do", {"row": "B"}), ("back_to", {"name": "x"}), ("row", {}), ("standing", {}), ("short", {}), ("walk", {}),
                 ("led", {"world": world, "thing": 0}), ("copy", {}), ("marks", {})]),
        (Desk(), [("say", {"row": "world w 1"}), ("say", {"row": "log l"}), ("say", {"row": "names"})]),
    ]


def function(module, name):
    return getattr(importlib.import_module("undotrees." + module), name)


def laid_open(thing):
    """What a thing tells of itself, as what can be compared, with all lists in it copied."""
    if isinstance(thing, (list, tuple)):
        return type(thing)(laid_open(each) for each in thing)
    if isinstance(thing, World):
        return ("world", len(thing), thing.laid())
    if isinstance(thing, Walk):
        return ("walk", str(thing))
    if isinstance(thing, Machine):
        return ("machine", thing.rooms(), thing.ways(), thing.goal())
    if isinstance(thing, Sewing):
        return ("sewing", laid_open(thing.machine()), thing.seams(), thing.due())
    if isinstance(thing, Log):
        return ("log", thing.row(), thing.standing(), thing.marks(), str(thing.walk()))
    if isinstance(thing, Desk):
        return ("desk", thing.say("names"))
    return thing


def spoil(thing):
    """Change all that can be changed of what was told: lists, also within tuples, and worlds and logs."""
    if isinstance(thing, (list, tuple)):
        for each in thing:
            spoil(each)
    if isinstance(thing, list):
        thing.append("spoiled")
        thing.reverse()
    if isinstance(thing, World):
        for deed, one, other in thing.laid():
            thing.lift(deed, one)
        thing.add()
    if isinstance(thing, Log):
        thing.do("fF")
        thing.mark("spoiled")


class Signatures(unittest.TestCase):

    def check(self, thing, text):
        name = text.split("(")[0]
        self.assertEqual(name + str(inspect.signature(thing)), text)

    def test_functions_and_classes(self):
        for module, texts in FUNCTIONS.items():
            for text in texts:
                thing = function(module, text.split("(")[0])
                self.check(thing, text)
                self.assertEqual(thing.__module__, "undotrees." + module)

    def test_methods_stand_in_their_class_itself(self):
        for kind, texts in METHODS.items():
            for text in texts:
                self.check(vars(kind)[text.split("(")[0]], text)
            for name in DOUBLE[kind]:
                self.assertIn(name, vars(kind))


class ByName(unittest.TestCase):

    def test_each_function_and_class(self):
        source = source_of(1)
        names = set()
        for module, asks in asked().items():
            for name, told in asks:
                names.add((module, name))
                ask = function(module, name)
                answer = laid_open(ask(*told.values()))
                self.assertEqual(laid_open(ask(**told)), answer, name)
                order = list(told.items())
                source.shuffle(order)
                self.assertEqual(laid_open(ask(**dict(order))), answer, name)
        self.assertEqual(names, {(module, text.split("(")[0]) for module, texts in FUNCTIONS.items() for text in texts})

    def test_each_method(self):
        names = set()
        for (one, asks), (other, same_asks) in zip(objects(), objects()):
            for (name, told), (again, others) in zip(asks, same_asks):
                names.add((type(one), name))
                answer = getattr(one, name)(**told)
                self.assertEqual(laid_open(getattr(other, name)(*others.values())), laid_open(answer), name)
                self.assertEqual(laid_open(one), laid_open(other))
        self.assertEqual(names, {(kind, text.split("(")[0]) for kind, texts in METHODS.items() for text in texts})

    def test_what_may_be_left_out(self):
        for module, name, told, rest in (
                ("rows", "number_of", ["aB"], [2]), ("rows", "row_at", [9], [2]), ("worlds", "World", [], [0]),
                ("walks", "Walk", [], [None, ""]), ("walks", "Walk", [["", "a"]], [""]),
                ("shortest", "shortest_at", [walk_of("aAbB")], [0]), ("trees", "code_of", [walk_of("ab")], [2]),
                ("trees", "trees_many", [4], [2]), ("trees", "tree_at", [4, 7], [2]), ("trees", "tree_number", [walk_of("ab")], [2]),
                ("machines", "Machine", [], [1, None, 0]), ("machines", "Machine", [2, [(0, "a", 1)]], [0]),
                ("sewing", "Sewing", ["ab"], [None, 40]), ("sewing", "Sewing", ["ab", [("a", "b")]], [40]),
                ("pairs", "paper_by", ["a", "aAa"], [None, 40]), ("pairs", "paper_by", ["a", "b", [("a", "b")]], [40])):
            ask = function(module, name)
            self.assertEqual(laid_open(ask(*told)), laid_open(ask(*told, *rest)), name)
        one, other = Log(), Log()
        one.do("ab")
        other.do("ab")
        self.assertEqual((one.back(), one.row()), (other.back(1), other.row()))


class OwnAndNew(unittest.TestCase):

    def test_nothing_handed_in_is_changed_and_what_is_told_is_the_askers(self):
        for module, asks in asked().items():
            for name, told in asks:
                ask = function(module, name)
                ahead = laid_open(list(told.values()))
                first = ask(**told)
                answer = laid_open(first)
                self.assertEqual(laid_open(list(told.values())), ahead, name)
                spoil(first)
                self.assertEqual(laid_open(list(told.values())), ahead, name)
                self.assertEqual(laid_open(ask(**told)), answer, name)

    def test_no_object_hangs_on_what_it_was_made_of(self):
        for module, asks in asked().items():
            for name, told in asks:
                answer = function(module, name)(**told)
                ahead = laid_open(answer)
                spoil(list(told.values()))
                self.assertEqual(laid_open(answer), ahead, name)

    def test_no_object_hangs_on_what_it_told(self):
        for thing, asks in objects():
            for name, told in asks:
                handed = laid_open(list(told.values()))
                answer = getattr(thing, name)(**told)
                ahead = laid_open(thing)
                spoil(answer)
                self.assertEqual(laid_open(thing), ahead, name)
                self.assertEqual(laid_open(list(told.values())), handed, name)

    def test_lists_in_what_is_told_are_apart(self):
        for module, asks in asked().items():
            for name, told in asks:
                first, second = (function(module, name)(**copy.copy(told)) for turn in range(2))
                found = lists_in(first) + lists_in(second)
                self.assertEqual(len({id(each) for each in found}), len(found), name)


def lists_in(thing):
    if not isinstance(thing, (list, tuple)):
        return []
    found = [each for part in thing for each in lists_in(part)]
    return found + [thing] if isinstance(thing, list) else found


if __name__ == "__main__":
    unittest.main()
