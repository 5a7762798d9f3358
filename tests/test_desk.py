"""Points [24] and [25]: the desk, its words, its answers, and its refusals in their order."""

import unittest

from samples import NO_ROWS, ODD_THINGS, some_row, source_of
from undotrees.desk import Desk
from undotrees.errors import Bare, Full, NoBack, NoGiven, NoMark, NoName, NoNumber, NoThing, NoWords, Taken
from undotrees.given import is_told
from undotrees.logs import Log
from undotrees.rows import plain
from undotrees.shortest import shortest_at, shortest_many
from undotrees.unlike import same, unlike
from undotrees.walks import walk_of
from undotrees.within import does_more, is_within

# A row of words for each first word, which the desk of `set_up` would answer.
GOOD = ("plain ab", "tree ab", "short ab", "same a b", "within a b", "more a b", "told a b", "world new 1", "lay w c 0 1",
        "lift w a 0", "led w a 0", "laid w", "log new", "do l a", "back l 1", "mark l y", "to l x", "open l", "brief l",
        "play l w 0", "names", "drop w")

NO_NUMBERS = ("00", "01", "-1", "+1", "1.0", "1e1", "a", "0x1", "1_0", "-", "1" * 31, "0" * 30, "\t", "1\t", "O")

NO_NAMES = ("A", "aB", "abcdefghi", "a1", "1", "-", "a-b", "_", "a\tb", "\t")


def word(row):
    return row or "-"


def set_up():
    """A desk with a world and a log, that has a mark."""
    desk = Desk()
    for row in ("world w 3", "lay w a 0 1", "lay w b 1 2", "log l", "do l ab", "mark l x", "do l B"):
        desk.say(row)
    return desk


def shown(desk):
    """All that the desk keeps, by its own answers."""
    found = [desk.say("names")]
    for name in found[0].split(" "):
        for ask in ("laid", "open", "brief"):
            try:
                found.append((ask, name, desk.say(f"{ask} {name}")))
            except NoName:
                pass
        for thing in range(4):
            for row in ("a", "B", "abc"):
                try:
                    found.append((name, row, thing, desk.say(f"led {name} {row} {thing}")))
                except (NoName, NoThing):
                    pass
    return found


class Rows(unittest.TestCase):

    def setUp(self):
        self.desk = Desk()

    def test_by_hand(self):
        for row, answer in (
                ("plain abBAc", "c"), ("plain aA", "-"), ("plain -", "-"), ("plain abAB", "abAB"),
                ("tree -", "- : -"), ("tree abBc", "- a ab ac : ac"), ("tree aA", "- a : -"),
                ("short -", "1 -"), ("short bBbBaAc", "2 aAbBc"), ("short aA", "1 aA"), ("short ab", "1 ab"),
                ("same aAbB bBaA", "yes"), ("same a aAa", "yes"), ("same - -", "yes"), ("within a abB", "yes"),
                ("within ab a", "no"), ("within - a", "yes"), ("within a -", "no"), ("more abB a", "yes"), ("more a abB", "no"),
                ("more a b", "no"), ("more aA -", "yes"), ("more - aA", "no"), ("told BA ab", "yes"), ("told ba ab", "no"),
                ("told CabcC ab c", "yes"), ("told - -", "yes"), ("told aA -", "no"), ("told a aa aaa", "yes")):
            self.assertEqual(self.desk.say(row), answer, row)
        self.assertEqual(self.desk.say("names"), "-")

    def test_some_rows(self):
        source = source_of(1)
        for number in range(150):
            one = some_row(source, 0, 8)
            other = source.choice((one, some_row(source, 0, 3), one[::-1], one + some_row(source, 0, 2), plain(one)))
            first, second = word(one), word(other)
            say = self.desk.say
            self.assertEqual(say(f"plain {first}"), word(plain(one)))
            self.assertEqual(say(f"tree {first}"), str(walk_of(one)))
            walk = walk_of(one)
            self.assertEqual(say(f"short {first}"), f"{shortest_many(walk)} {word(shortest_at(walk))}")
            self.assertEqual(say(f"within {first} {second}"), "yes" if is_within(one, other) else "no")
            self.assertEqual(say(f"more {first} {second}"), "yes" if does_more(other, one) else "no")
            told = unlike(one, other)
            answer = "yes" if same(one, other) else f"no {len(told[0])} {told[1]}"
            self.assertEqual(say(f"same {first} {second}"), answer)
            rows = [some_row(source, 0, 6) for row in range(source.randint(1, 6))]
            given = " ".join([word(row) for row in rows])
            self.assertEqual(say(f"told {first} {given}"), "yes" if is_told(rows, one) else "no")

    def test_sixty_signs(self):
        row = "ab" * 30
        self.assertEqual(self.desk.say("plain " + row), row)
        self.assertEqual(self.desk.say(f"same {row} {row}"), "yes")
        self.assertEqual(self.desk.say(f"same {row} -"), "no 1 0")
        self.assertEqual(self.desk.say("short " + "abcABC" * 10), "1 " + "abcABC" * 10)


class Worlds(unittest.TestCase):

    def test_by_hand(self):
        say = Desk().say
        for row, answer in (
                ("world x 3", "ok"), ("laid x", "-"), ("lay x b 0 1", "ok"), ("lay x a 2 2", "ok"), ("lay x a 1 0", "ok"),
                ("laid x", "a 1 0 ; a 2 2 ; b 0 1"), ("led x ba 0", "0"), ("led x - 2", "2"), ("led x b 1", "-"),
                ("led x B 1", "0"), ("lift x a 1", "0"), ("laid x", "a 2 2 ; b 0 1"), ("led x ba 0", "-"), ("lift x b 0", "1"),
                ("laid x", "a 2 2"), ("names", "x"), ("world abcdefgh 0", "ok"), ("laid abcdefgh", "-"),
                ("world b 61", "ok"), ("lay b f 60 0", "ok"), ("led b F 0", "60"), ("names", "abcdefgh b x"),
                ("drop x", "ok"), ("names", "abcdefgh b"), ("world x 1", "ok"), ("laid x", "-"), ("drop x", "ok"),
                ("drop b", "ok"), ("drop abcdefgh", "ok"), ("names", "-")):
            self.assertEqual(say(row), answer, row)

    def test_what_the_points_refuse(self):
        desk = set_up()
        ahead = shown(desk)
        for row, error, fields in (
                ("world new 62", NoNumber, {"number": 62}), ("world new " + "9" * 30, NoNumber, {"number": 10 ** 30 - 1}),
                ("lay w c 3 0", NoThing, {"thing": 3}), ("lay w c 0 3", NoThing, {"thing": 3}),
                ("lay w c 7 8", NoThing, {"thing": 7}), ("lay w a 0 2", Taken, {"deed": "a", "thing": 0}),
                ("lay w a 2 1", Taken, {"deed": "a", "thing": 1}), ("lift w a 3", NoThing, {"thing": 3}),
                ("lift w a 1", Bare, {"deed": "a", "thing": 1}), ("led w a 3", NoThing, {"thing": 3}),
                ("led w - " + "1" * 30, NoThing, {"thing": int("1" * 30)}), ("play l w 3", NoThing, {"thing": 3}),
                ("back l 0", NoBack, {"many": 0}), ("back l 4", NoBack, {"many": 4}), ("to l y", NoMark, {"name": "y"}),
                ("told a " + "b" * 41, NoGiven, {"number": None}), ("told a b c d e f a b", NoGiven, {"number": None}),
                ("told a b " + "b" * 40, NoGiven, {"number": None}), ("do l " + "abcdef" * 10, Full, {"size": 63})):
            with self.assertRaises(error) as caught:
                desk.say(row)
            self.assertEqual(vars(caught.exception), fields, row)
            self.assertEqual(shown(desk), ahead, row)


class Logs(unittest.TestCase):

    def test_by_hand(self):
        say = Desk().say
        for row, answer in (
                ("log x", "ok"), ("open x", "-"), ("brief x", "-"), ("do x ab", "2"), ("mark x m", "ok"), ("do x cC", "4"),
                ("open x", "abcC"), ("brief x", "abcC"), ("back x 1", "5"), ("open x", "abc"), ("to x m", "1"),
                ("open x", "ab"), ("to x m", "0"), ("mark x x", "ok"), ("do x -", "6"), ("do x Bb", "8"), ("back x 3", "11"),
                ("open x", "a"), ("world w 4", "ok"), ("lay w a 0 1", "ok"), ("lay w b 1 2", "ok"), ("play x w 0", "-"),
                ("lay w c 2 3", "ok"), ("play x w 0", "1"), ("play x w 1", "-"), ("names", "w x"), ("brief x", "abcCB"),
                ("drop x", "ok"), ("names", "w"), ("log x", "ok"), ("open x", "-"), ("play x w 3", "3")):
            self.assertEqual(say(row), answer, row)

    def test_some_logs(self):
        source = source_of(2)
        for number in range(30):
            desk, log = Desk(), Log()
            desk.say("log some")
            for turn in range(12):
                row = some_row(source, 0, 4)
                self.assertEqual(desk.say(f"do some {word(row)}"), str(log.do(row)))
                if log.standing() and source.random() < 0.5:
                    many = source.randint(1, len(log.standing()))
                    self.assertEqual(desk.say(f"back some {many}"), str(log.back(many)))
                if source.random() < 0.3:
                    self.assertEqual(desk.say("mark some here"), "ok")
                    log.mark("here")
                if "here" in log.marks() and source.random() < 0.3:
                    self.assertEqual(desk.say("to some here"), str(log.back_to("here")))
                self.assertEqual(desk.say("open some"), word(log.standing()))
                self.assertEqual(desk.say("brief some"), word(log.short()))

    def test_the_second_name_of_mark_and_to_is_left_to_the_log(self):
        desk = set_up()
        ahead = shown(desk)
        for name in NO_NAMES:
            for first in ("mark l", "to l"):
                with self.assertRaises(NoMark) as caught:
                    desk.say(f"{first} {name}")
                self.assertEqual(caught.exception.name, name)
                # The first name is looked at ahead of that.
                with self.assertRaises(NoName) as caught:
                    desk.say(f"{first[:-1]}w {name}")
                self.assertEqual(caught.exception.name, "w")
        with self.assertRaises(NoMark) as caught:
            desk.say("to l nomark")
        self.assertEqual(caught.exception.name, "nomark")
        self.assertEqual(shown(desk), ahead)
        # A mark may be called like what the desk keeps.
        self.assertEqual(desk.say("mark l w"), "ok")
        self.assertEqual(desk.say("mark l l"), "ok")
        self.assertEqual(desk.say("to l w"), "0")


class NoWordsRefused(unittest.TestCase):

    def setUp(self):
        self.desk = set_up()
        self.ahead = shown(self.desk)

    def check(self, thing):
        with self.assertRaises(NoWords, msg=repr(thing) if isinstance(thing, str) else None) as caught:
            self.desk.say(thing)
        self.assertIs(caught.exception.text, thing)

    def tearDown(self):
        self.assertEqual(shown(self.desk), self.ahead)

    def test_no_text(self):
        for thing in ODD_THINGS:
            self.check(thing)
        self.check(["names"])
        self.check(b"names")

    def test_none_of_these_rows(self):
        for text in ("", " ", "  ", "\t", "a", "-", "Names", "name", "NAMES", "\tnames", "names\t", "quit", "ROW", "plain\tab",
                     "0", "row l", "marks l", "copy l", "world", "nothing a b", "keep w", "ok"):
            self.check(text)

    def test_a_line_feed(self):
        for text in GOOD:
            for other in (text + "\n", "\n" + text, text.replace(" ", "\n", 1) + "\n", text.replace(" ", "\n") + "\n"):
                self.check(other)
        self.check("plain a\nb")
        self.check("mark l a\nb")

    def test_words_too_few_or_too_many_and_blanks(self):
        for text in GOOD:
            words = text.split(" ")
            if words[0] != "told":
                self.check(text + " a")
                self.check(text + " 0")
            self.check(text + " ")
            self.check(" " + text)
            self.check(text + "  ")
            if len(words) > 1:
                self.check(" ".join(words[:-1]))
                self.check(words[0])
                self.check(words[0] + " ")
                self.check(text.replace(" ", "  ", 1))
                self.check("  ".join(text.rsplit(" ", 1)))
                self.check(text.replace(" ", "\t"))
                self.check(text.rsplit(" ", 1)[0] + " ")
        self.check("told a")
        self.check("told a ")
        self.check("told a  b")
        self.check("told a b ")

    def test_no_row(self):
        rows = [row for row in NO_ROWS if isinstance(row, str) and row != "-" and " " not in row and "\n" not in row]
        self.assertGreater(len(rows), 7)
        for row in rows + ["--", "-a", "a-", "0"]:
            for text in ("plain {}", "tree {}", "short {}", "same {} a", "same a {}", "within {} a", "within a {}", "more {} a",
                         "more a {}", "told {} a", "told a {}", "told a b c {} d", "led w {} 0", "do l {}"):
                self.check(text.format(row))

    def test_no_number(self):
        for number in NO_NUMBERS:
            for text in ("world new {}", "lay w c {} 1", "lay w c 0 {}", "lift w a {}", "led w a {}", "back l {}", "play l w {}"):
                self.check(text.format(number))

    def test_no_deed(self):
        for deed in ("A", "g", "ab", "-", "0", "w", "F", "aA"):
            self.check(f"lay w {deed} 0 1")
            self.check(f"lift w {deed} 0")

    def test_words_are_looked_at_ahead_of_names(self):
        for text in ("world w 01", "world A x", "lay none g 0 1", "lay none a 0 00", "lift l a -1", "led l ax 0", "do w x",
                     "do none ab1", "back none one", "play none none -", "log", "log a b", "open", "drop a b", "mark none",
                     "to none a b", "laid A B", "world A 1 1", "led none -- 0"):
            self.check(text)

    def test_words_are_looked_at_ahead_of_what_the_points_refuse(self):
        for text in ("lay w a 9 01", "told x a b c d e f a b", "world new " + "9" * 31, "back l 00"):
            self.check(text)


class NoNameRefused(unittest.TestCase):

    def setUp(self):
        self.desk = set_up()
        self.ahead = shown(self.desk)

    def check(self, text, name):
        with self.assertRaises(NoName, msg=text) as caught:
            self.desk.say(text)
        self.assertEqual(caught.exception.name, name, text)

    def tearDown(self):
        self.assertEqual(shown(self.desk), self.ahead)

    def test_no_names(self):
        for name in NO_NAMES:
            for text in ("world {} 1", "lay {} a 0 1", "lift {} a 0", "led {} a 0", "laid {}", "log {}", "do {} a", "back {} 1",
                         "mark {} x", "to {} x", "open {}", "brief {}", "play {} w 0", "play l {} 0", "drop {}"):
                self.check(text.format(name), name)

    def test_nothing_of_the_kind_is_kept(self):
        for text in ("lay {} c 0 1", "lift {} a 0", "led {} a 0", "laid {}", "play l {} 0"):
            self.check(text.format("l"), "l")
            self.check(text.format("none"), "none")
        for text in ("do {} a", "back {} 1", "mark {} x", "to {} x", "open {}", "brief {}", "play {} w 0"):
            self.check(text.format("w"), "w")
            self.check(text.format("none"), "none")
        self.check("drop none", "none")
        self.check("drop x", "x")

    def test_kept_already(self):
        for name in ("w", "l"):
            self.check(f"world {name} 1", name)
            self.check(f"log {name}", name)

    def test_the_first_one_first(self):
        self.check("play w l 0", "w")
        self.check("play none other 0", "none")
        self.check("play A B 0", "A")
        self.check("play l B 0", "B")
        self.check("play l l 0", "l")
        self.check("play w A 0", "w")
        self.check("mark none A", "none")
        self.check("to w none", "w")

    def test_names_are_looked_at_ahead_of_what_the_points_refuse(self):
        self.check("world w 62", "w")
        self.check("lay l a 9 9", "l")
        self.check("back w 0", "w")
        self.check("play l none 99", "none")


class FullRefused(unittest.TestCase):

    def test_twenty_names(self):
        desk = Desk()
        names = ["n" + letter for letter in "tsrqponmlkjihgfedcba"]
        for number, name in enumerate(names):
            self.assertEqual(desk.say(f"log {name}" if number % 2 else f"world {name} {number}"), "ok")
        self.assertEqual(desk.say("names"), " ".join(sorted(names)))
        for text in ("world new 1", "log new", "world new 62", "world new " + "9" * 30):
            with self.assertRaises(Full) as caught:
                desk.say(text)
            self.assertEqual(caught.exception.size, 21)
            self.assertEqual(desk.say("names"), " ".join(sorted(names)))
        for text, name in (("world na 1", "na"), ("log nb", "nb"), ("world A 62", "A"), ("log abcdefghi", "abcdefghi")):
            with self.assertRaises(NoName) as caught:
                desk.say(text)
            self.assertEqual(caught.exception.name, name)
        with self.assertRaises(NoWords):
            desk.say("world new 062")
        self.assertEqual(desk.say("drop na"), "ok")
        with self.assertRaises(NoNumber):
            desk.say("world new 62")
        self.assertEqual(desk.say("log new"), "ok")
        with self.assertRaises(Full):
            desk.say("log newer")

    def test_a_log_that_is_full(self):
        desk = Desk()
        desk.say("log x")
        for turn in range(66):
            desk.say("do x " + "aA" * 30)
        for text, size in (("do x " + "b" * 60, 4020), ("back x 3960", 7920)):
            with self.assertRaises(Full) as caught:
                desk.say(text)
            self.assertEqual(caught.exception.size, size)
        self.assertEqual(desk.say("do x -"), "3960")


class Apart(unittest.TestCase):

    def test_two_desks(self):
        one, other = set_up(), Desk()
        self.assertEqual(other.say("names"), "-")
        other.say("world w 1")
        other.say("lay w f 0 0")
        self.assertEqual((one.say("laid w"), other.say("laid w")), ("a 0 1 ; b 1 2", "f 0 0"))
        one.say("drop w")
        self.assertEqual((one.say("names"), other.say("names")), ("l", "w"))

    def test_two_of_one_desk(self):
        desk = set_up()
        desk.say("world v 3")
        desk.say("log k")
        desk.say("do k c")
        self.assertEqual([desk.say(text) for text in ("laid v", "laid w", "open k", "open l")], ["-", "a 0 1 ; b 1 2", "c", "abB"])

    def test_each_good_row_is_answered_by_a_text(self):
        for text in GOOD:
            self.assertIs(type(set_up().say(text)), str)
            self.assertEqual(set_up().say(text), set_up().say(row=text))

    def test_asked_twice_alike(self):
        desk = set_up()
        for text in ("same a b", "laid w", "open l", "names", "led w a 0", "play l w 0", "told a b"):
            self.assertEqual(desk.say(text), desk.say(text))


if __name__ == "__main__":
    unittest.main()
