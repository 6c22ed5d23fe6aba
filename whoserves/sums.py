"""Rows of parts: their greatest ones, what these come to, and how far they may."""

from whoserves.parts import NOUGHT, greatest_common, is_less, part, plus, total


def common_below(row):
    """The least number into which all belows of the row go."""
    found = 1
    for one in row:
        found = found // greatest_common(found, one[1]) * one[1]
    return found


def greatest_first(row):
    """The places of the row by their parts, the greatest first."""
    common = common_below(row)
    # Over one below the aboves alone tell the order, as plain numbers.
    aboves = [above * (common // below) for above, below in row]
    return sorted(range(len(aboves)), key=lambda place: (-aboves[place], place))


def sums_ahead(row):
    """For k from 0 on what the k greatest parts of the row come to."""
    sums = [NOUGHT]
    for place in greatest_first(row):
        sums.append(plus(sums[-1], row[place]))
    return sums


def most(weight, seats, many):
    """What so many of the seats may owe together, by a weight, at the most."""
    return part(weight * many * (seats - many), 2)


def fall(weight, row):
    """The least number at which the row falls by the weight, or None."""
    for many, ahead in enumerate(sums_ahead(row)):
        if is_less(most(weight, len(row), many), ahead):
            return many
    return None


def is_within(weight, row):
    """Whether the row comes to nought and falls nowhere by the weight."""
    return total(row) == NOUGHT and fall(weight, row) is None


def places_beyond(weight, row):
    """The least many greatest places at which the row falls by the weight; none where it falls nowhere."""
    many = fall(weight, row)
    if many is None:
        return []
    return greatest_first(row)[:many]
