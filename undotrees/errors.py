"""Refusals: each a class of its own, with fields called like what it is made of."""


class NoRow(ValueError):
    """What is no row, or no long row."""

    def __init__(self, text):
        self.text = text


class NoText(ValueError):
    """What is no written walk."""

    def __init__(self, text):
        self.text = text


class NoWords(ValueError):
    """What the desk does not take for a row of words."""

    def __init__(self, text):
        self.text = text


class NoSign(ValueError):
    """A sign of another deed, at a place."""

    def __init__(self, place):
        self.place = place


class NoTree(ValueError):
    """What is no list of the places of a tree."""

    def __init__(self, place):
        self.place = place


class NoGiven(ValueError):
    """What are no given rows."""

    def __init__(self, number):
        self.number = number


class NoPairs(ValueError):
    """What are no told pairs."""

    def __init__(self, number):
        self.number = number


class NoMachine(ValueError):
    """What makes no machine."""

    def __init__(self, number):
        self.number = number


class NoDeed(KeyError):
    """What is no deed."""

    def __init__(self, deed):
        self.deed = deed


class NoMark(KeyError):
    """What is no name of a mark, or of none that stands."""

    def __init__(self, name):
        self.name = name


class NoName(KeyError):
    """A name that is none, or not one of what is due."""

    def __init__(self, name):
        self.name = name


class NoEnd(KeyError):
    """What is no end of a walk, or not the end that is due."""

    def __init__(self, place):
        self.place = place


class NoThing(IndexError):
    """What is no thing of a world."""

    def __init__(self, thing):
        self.thing = thing


class NoNumber(LookupError):
    """What is no number, or not one of those for which there is something."""

    def __init__(self, number):
        self.number = number


class NoStep(LookupError):
    """A step that can not be done."""

    def __init__(self, number):
        self.number = number


class Bare(LookupError):
    """A deed that does not lead the thing from which it is lifted."""

    def __init__(self, deed, thing):
        self.deed = deed
        self.thing = thing


class NoSeam(LookupError):
    """What is no seam."""

    def __init__(self, seam):
        self.seam = seam


class NoBack(ArithmeticError):
    """What is no number of signs that can be taken back."""

    def __init__(self, many):
        self.many = many


class Taken(RuntimeError):
    """A deed that leads a thing, or one to it, already."""

    def __init__(self, deed, thing):
        self.deed = deed
        self.thing = thing


class NoFold(RuntimeError):
    """What are no two rooms that must be one."""

    def __init__(self, one, other):
        self.one = one
        self.other = other


class Full(OverflowError):
    """More than there is room for."""

    def __init__(self, size):
        self.size = size


class TooMany(OverflowError):
    """A walk of too many places."""

    def __init__(self, many):
        self.many = many
