"""Single steps of long rows."""

from undotrees.basics import is_whole
from undotrees.errors import NoRow, NoStep
from undotrees.rows import has_signs, turned

MOST_LONG = 4000

# How many numbers stand behind the word of a step.
NUMBERS = {"less": 2, "more": 2, "past": 3}


def is_long_row(thing):
    """Whether a thing, of anything, is a long row."""
    return has_signs(thing, MOST_LONG)


def check_long_row(row):
    """Refuse what is no long row."""
    if not is_long_row(row):
        raise NoRow(row)


def is_pair(row, at, many):
    """Whether so many signs, one or more, stand from a place on, and their contrary row behind them."""
    if many < 1 or at + 2 * many > len(row):
        return False
    return row[at + many:at + 2 * many] == turned(row[at:at + many])


def made_less(row, at, many):
    """What comes of less, None where it can't be done."""
    behind = at + 2 * many
    if not is_pair(row, at, many) or row[behind:behind + many] != row[at:at + many]:
        return None
    return row[:at + many] + row[behind + many:]


def made_more(row, at, many):
    """What comes of more, None where it can't be done."""
    if many < 1 or at + many > len(row) or len(row) + 2 * many > MOST_LONG:
        return None
    return row[:at + many] + turned(row[at:at + many]) + row[at:]


def made_past(row, at, many, others):
    """What comes of past, None where it can't be done."""
    middle = at + 2 * many
    behind = middle + 2 * others
    if not is_pair(row, at, many) or not is_pair(row, middle, others):
        return None
    return row[:at] + row[middle:behind] + row[at:middle] + row[behind:]


def has_form(thing):
    """Whether a thing, of anything, has the form of a step: a word, and its whole numbers, none below 0."""
    if not isinstance(thing, tuple) or len(thing) == 0 or not isinstance(thing[0], str):
        return False
    if thing[0] not in NUMBERS or NUMBERS[thing[0]] != len(thing) - 1:
        return False
    return all([is_whole(number) and number >= 0 for number in thing[1:]])


def after_step(row, step):
    """What comes of a step, None where it, of anything, can't be done."""
    if not has_form(step):
        return None
    if step[0] == "less":
        return made_less(row, step[1], step[2])
    if step[0] == "more":
        return made_more(row, step[1], step[2])
    return made_past(row, step[1], step[2], step[3])


def stepped(row, step):
    """What comes of a step of a long row."""
    return led_on(row, [step])


def led_on(row, steps):
    """What comes of a list of steps of a long row, done one by one."""
    check_long_row(row)
    at = row
    for number, step in enumerate(steps):
        after = after_step(at, step)
        if after is None:
            raise NoStep(number)
        at = after
    return at
