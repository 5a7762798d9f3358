"""Papers for two rows by told pairs: that they are the same where all pairs are, or apart in a world."""

from undotrees.errors import Full, NoSeam
from undotrees.rows import check_row
from undotrees.sewing import MOST_SEAMS, Sewing, told_pairs
from undotrees.unlike import tells_unlike


def paper_by(one, other, pairs=None, most=40):
    """A paper for two rows by told pairs."""
    check_row(one)
    check_row(other)
    # Each sewing stands with the row that it is to tell.
    sewings = [(Sewing(one, pairs, most), other), (Sewing(other, pairs, most), one)]
    turn = 0
    while not all([sewing.tells(row) for sewing, row in sewings]):
        sewing, row = sewings[turn]
        if not sewing.tells(row) and sewing.sew_next() is None:
            return ("apart", sewing.cloth.copy(), 0)
        turn = 1 - turn
    return ("same", sewings[0][0].seams(), sewings[1][0].seams())


def sews_to(row, pairs, seams, other):
    """Whether seams, of anything, are a list that can be sewn from a row on, and then tell the other row."""
    if not isinstance(seams, list) or len(seams) > MOST_SEAMS:
        return False
    try:
        sewing = Sewing(row, pairs)
        for seam in seams:
            sewing.sew(seam)
    except (Full, NoSeam):
        return False
    return sewing.tells(other)


def lets_by(one, other, pairs, thing):
    """Whether a thing, of anything, is a paper for two rows by told pairs."""
    check_row(one)
    check_row(other)
    rules = told_pairs(pairs)
    if not isinstance(thing, tuple) or len(thing) != 3 or not isinstance(thing[0], str):
        return False
    if thing[0] == "same":
        return sews_to(one, pairs, thing[1], other) and sews_to(other, pairs, thing[2], one)
    if thing[0] != "apart" or not tells_unlike(one, other, thing[1:]):
        return False
    return all([thing[1].same(first, second) for first, second in rules])
