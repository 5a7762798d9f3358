"""The refusals of "The interface", undotrees/errors.py."""

import unittest

from undotrees import errors

# Each name with its class of Python's own and its fields. Of the three that are made of a text
# the document names no field but the text.
REFUSALS = {
    "NoRow": (ValueError, ("text",)),
    "NoText": (ValueError, ("text",)),
    "NoWords": (ValueError, ("text",)),
    "NoSign": (ValueError, ("place",)),
    "NoTree": (ValueError, ("place",)),
    "NoGiven": (ValueError, ("number",)),
    "NoPairs": (ValueError, ("number",)),
    "NoMachine": (ValueError, ("number",)),
    "NoDeed": (KeyError, ("deed",)),
    "NoMark": (KeyError, ("name",)),
    "NoName": (KeyError, ("name",)),
    "NoEnd": (KeyError, ("place",)),
    "NoThing": (IndexError, ("thing",)),
    "NoNumber": (LookupError, ("number",)),
    "NoStep": (LookupError, ("number",)),
    "Bare": (LookupError, ("deed", "thing")),
    "NoSeam": (LookupError, ("seam",)),
    "NoBack": (ArithmeticError, ("many",)),
    "Taken": (RuntimeError, ("deed", "thing")),
    "NoFold": (RuntimeError, ("one", "other")),
    "Full": (OverflowError, ("size",)),
    "TooMany": (OverflowError, ("many",)),
}

THINGS = ("", "a", "no row", 0, -7, 10 ** 60, True, None, [], [1, []], (1, "b"), {}, {"a": 1}, 1.5, b"a", object(), len)


class Refusals(unittest.TestCase):

    def test_there_are_just_these(self):
        self.assertEqual(len(REFUSALS), 22)
        found = [name for name, thing in vars(errors).items() if isinstance(thing, type)]
        self.assertEqual(sorted(found), sorted(REFUSALS))

    def test_each_is_right_under_its_class_of_pythons_own(self):
        for name, (base, fields) in REFUSALS.items():
            with self.subTest(name):
                self.assertEqual(getattr(errors, name).__bases__, (base,))

    def test_none_is_under_another_one(self):
        for name in REFUSALS:
            for other in REFUSALS:
                if name != other:
                    with self.subTest(name=name, other=other):
                        self.assertFalse(issubclass(getattr(errors, name), getattr(errors, other)))

    def test_fields_hold_what_it_was_made_of_by_place(self):
        for name, (base, fields) in REFUSALS.items():
            for thing in THINGS:
                with self.subTest(name=name, thing=thing):
                    values = [thing, [thing]][:len(fields)]
                    refusal = getattr(errors, name)(*values)
                    for field, value in zip(fields, values):
                        self.assertIs(getattr(refusal, field), value)

    def test_fields_hold_what_it_was_made_of_by_name(self):
        for name, (base, fields) in REFUSALS.items():
            for thing in THINGS:
                with self.subTest(name=name, thing=thing):
                    values = dict(zip(fields, [thing, [thing]]))
                    refusal = getattr(errors, name)(**values)
                    self.assertEqual(vars(refusal), values)
                    for field in fields:
                        self.assertIs(getattr(refusal, field), values[field])

    def test_each_is_raised_and_caught_as_its_class_of_pythons_own(self):
        for name, (base, fields) in REFUSALS.items():
            with self.subTest(name):
                with self.assertRaises(base) as caught:
                    raise getattr(errors, name)(*fields)
                self.assertIsInstance(caught.exception, getattr(errors, name))
                self.assertIsInstance(str(caught.exception), str)


if __name__ == "__main__":
    unittest.main()
