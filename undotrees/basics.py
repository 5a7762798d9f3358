"""What the files of the package share: whole numbers, deeds, signs and names."""

DEEDS = ("a", "b", "c", "d", "e", "f")

# The order of this tuple is the order of signs.
SIGNS = ("a", "A", "b", "B", "c", "C", "d", "D", "e", "E", "f", "F")

CONTRARIES = {
    "a": "A", "A": "a", "b": "B", "B": "b", "c": "C", "C": "c",
    "d": "D", "D": "d", "e": "E", "E": "e", "f": "F", "F": "f",
}

LETTERS = "abcdefghijklmnopqrstuvwxyz"
MOST_LETTERS = 8


def is_whole(thing):
    """Whether a thing, of anything, is a whole number."""
    # Python counts True and False as ints; the document does not.
    return isinstance(thing, int) and not isinstance(thing, bool)


def is_whole_in(thing, least, most):
    """Whether a thing, of anything, is a whole number from least to most."""
    return is_whole(thing) and least <= thing <= most


def is_deed(thing):
    """Whether a thing, of anything, is a deed."""
    # A thing that is no text might fail when it is compared, so the kind is asked first.
    return isinstance(thing, str) and thing in DEEDS


def is_name(thing):
    """Whether a thing, of anything, is a name of one to eight small letters."""
    if not isinstance(thing, str) or not 1 <= len(thing) <= MOST_LETTERS:
        return False
    return all([letter in LETTERS for letter in thing])
