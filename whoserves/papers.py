"""Papers: a moment shown by itself, to be held against a weight alone."""

from whoserves.moments import owing
from whoserves.parts import is_part, is_whole
from whoserves.sums import greatest_first, is_within, most, sums_ahead


def rows_of(weight, row):
    """The rows of the paper of seats that owe this row, by the weight."""
    sums = sums_ahead(row)
    return [
        (seat, row[seat], sums[many], most(weight, len(row), many))
        for many, seat in enumerate(greatest_first(row), start=1)
    ]


def paper_of(moment):
    """The paper of a moment."""
    return rows_of(moment[0], owing(moment))


def is_row_of_paper(thing):
    """Whether this is a tuple of a whole number and three parts: True or False, of anything."""
    if not isinstance(thing, tuple) or len(thing) != 4:
        return False
    return is_whole(thing[0]) and all([is_part(one) for one in thing[1:]])


def paper_holds(weight, thing):
    """Whether this is a paper that holds by the weight: True or False, of anything."""
    if not isinstance(thing, list) or not all([is_row_of_paper(line) for line in thing]):
        return False
    owed = {line[0]: line[1] for line in thing}
    if sorted(owed) != list(range(len(thing))):
        return False
    row = tuple([owed[seat] for seat in range(len(thing))])
    # What seats owe leaves no choice in the rest of a paper: it is right where it is just this.
    return thing == rows_of(weight, row) and is_within(weight, row)


def is_paper(moment, thing):
    """Whether this holds and tells just what the moment's paper does: True or False, of anything."""
    return paper_holds(moment[0], thing) and thing == paper_of(moment)
