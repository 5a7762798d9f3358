"""The desk: worlds and logs by names, told rows of words, answered by texts."""

from undotrees.basics import is_deed, is_name
from undotrees.errors import Full, NoName, NoWords
from undotrees.given import is_told
from undotrees.logs import Log
from undotrees.rows import is_row, plain
from undotrees.shortest import shortest_at, shortest_many
from undotrees.unlike import unlike
from undotrees.walks import walk_of, written
from undotrees.within import does_more, is_within
from undotrees.worlds import World

MOST_NAMES = 20
MOST_FIGURES = 30
FIGURES = "0123456789"

# What stands behind each first word. A name is one of a world, of a log, of either (kept) or of nothing yet (new); the
# name of a mark is left to its log. Behind "told" there may be more rows.
FORMS = {
    "plain": ("row",), "tree": ("row",), "short": ("row",),
    "same": ("row", "row"), "within": ("row", "row"), "more": ("row", "row"), "told": ("row", "row"),
    "world": ("new", "number"), "lay": ("world", "deed", "number", "number"), "lift": ("world", "deed", "number"),
    "led": ("world", "row", "number"), "laid": ("world",),
    "log": ("new",), "do": ("log", "row"), "back": ("log", "number"), "mark": ("log", "mark"), "to": ("log", "mark"),
    "open": ("log",), "brief": ("log",), "play": ("log", "world", "number"),
    "names": (), "drop": ("kept",),
}
NAMES = ("new", "kept", "world", "log")


def is_number(word):
    """Whether a word is a whole number."""
    if len(word) > MOST_FIGURES or not all([figure in FIGURES for figure in word]):
        return False
    return word == "0" or word[0] != "0"


def fits(kind, word):
    """Whether a word is of a kind, where it is no name."""
    if kind == "row":
        return word == "-" or is_row(word)
    if kind == "number":
        return is_number(word)
    return kind != "deed" or is_deed(word)


def form_of(words):
    """The kinds that are due behind the first word; None where there is no such row of words."""
    if words[0] not in FORMS:
        return None
    form = FORMS[words[0]]
    if words[0] == "told" and len(words) > 3:
        form = ("row",) * (len(words) - 1)
    return form if len(form) == len(words) - 1 else None


def words_of(text):
    """The words of a text; what is no row of words for a desk is refused."""
    if not isinstance(text, str) or "\n" in text:
        raise NoWords(text)
    words = text.split(" ")
    form = form_of(words)
    if form is None or "" in words:
        raise NoWords(text)
    if not all([fits(kind, word) for kind, word in zip(form, words[1:])]):
        raise NoWords(text)
    return words


def yes_or_no(truth):
    """The word for a truth."""
    return "yes" if truth else "no"


def thing_word(thing):
    """The word for a thing, or for None."""
    return "-" if thing is None else str(thing)


def answer_plain(row):
    """A row made plain."""
    return written(plain(row))


def answer_tree(row):
    """The text of a row's walk."""
    return str(walk_of(row))


def answer_short(row):
    """How many shortest rows there are, and the first one."""
    walk = walk_of(row)
    return f"{shortest_many(walk)} {written(shortest_at(walk))}"


def answer_same(one, other):
    """Whether two rows are the same; where not, the sizes of the world and the thing told."""
    told = unlike(one, other)
    return "yes" if told is None else f"no {len(told[0])} {told[1]}"


def answer_within(one, other):
    """Whether the first row can be done wherever the second one can."""
    return yes_or_no(is_within(one, other))


def answer_more(one, other):
    """Whether the second row does all that the first one does."""
    return yes_or_no(does_more(other, one))


def answer_told(row, *rows):
    """Whether the first row is told by the others."""
    return yes_or_no(is_told(list(rows), row))


def answer_lay(world, deed, one, other):
    """Lay a deed."""
    world.lay(deed, one, other)
    return "ok"


def answer_lift(world, deed, thing):
    """Lift a deed; the thing to which it led."""
    return str(world.lift(deed, thing))


def answer_led(world, row, thing):
    """The thing to which a row leads a thing."""
    return thing_word(world.led(row, thing))


def answer_laid(world):
    """All that is laid in a world."""
    return written(" ; ".join([f"{deed} {one} {other}" for deed, one, other in world.laid()]))


def answer_do(log, row):
    """Do a row; how many signs the log has then."""
    return str(log.do(row))


def answer_back(log, many):
    """Take back so many signs; how many signs the log has then."""
    return str(log.back(many))


def answer_mark(log, name):
    """Set a mark."""
    log.mark(name)
    return "ok"


def answer_to(log, name):
    """Take back all signs since a mark; how many."""
    return str(log.back_to(name))


def answer_open(log):
    """The open signs of a log."""
    return written(log.standing())


def answer_brief(log):
    """The short row of a log."""
    return written(log.short())


def answer_play(log, world, thing):
    """The thing to which a log leads a thing of a world."""
    return thing_word(log.led(world, thing))


# All first words but those for what the desk itself does.
ANSWERS = {
    "plain": answer_plain, "tree": answer_tree, "short": answer_short, "same": answer_same, "within": answer_within,
    "more": answer_more, "told": answer_told, "lay": answer_lay, "lift": answer_lift, "led": answer_led,
    "laid": answer_laid, "do": answer_do, "back": answer_back, "mark": answer_mark, "to": answer_to,
    "open": answer_open, "brief": answer_brief, "play": answer_play,
}


class Desk:
    """Worlds and logs, kept by names."""

    def __init__(self):
        self.kept = {}

    def is_due(self, kind, name):
        """Whether a word is a name of the kind that is due."""
        if not is_name(name):
            return False
        if kind == "new":
            return name not in self.kept
        if name not in self.kept:
            return False
        if kind == "world":
            return isinstance(self.kept[name], World)
        return kind == "kept" or isinstance(self.kept[name], Log)

    def part(self, kind, word):
        """What a word stands for."""
        if kind == "row":
            return "" if word == "-" else word
        if kind == "number":
            return int(word)
        return self.kept[word] if kind in ("world", "log") else word

    def keep(self, word, parts):
        """Answer what asks for the desk itself."""
        if word == "names":
            return written(" ".join(sorted(self.kept)))
        if word == "drop":
            del self.kept[parts[0]]
        elif word == "world":
            self.kept[parts[0]] = World(parts[1])
        else:
            self.kept[parts[0]] = Log()
        return "ok"

    def say(self, row):
        """The answer to a row of words."""
        words = words_of(row)
        form = form_of(words)
        for kind, word in zip(form, words[1:]):
            if kind in NAMES and not self.is_due(kind, word):
                raise NoName(word)
        if "new" in form and len(self.kept) >= MOST_NAMES:
            raise Full(len(self.kept) + 1)
        parts = [self.part(kind, word) for kind, word in zip(form, words[1:])]
        if words[0] not in ANSWERS:
            return self.keep(words[0], parts)
        answer = ANSWERS[words[0]]
        return answer(*parts)
