"""A moment weighed anew, and two moments poured together."""

from whoserves.moments import check_weight, check_within, owes, sits
from whoserves.parts import NOUGHT, plus


def weighed(moment, weight):
    """The moment with another weight, or the same."""
    check_weight(weight)
    found = (weight, moment[1])
    check_within(found, list(range(len(found[1]))))
    return found


def owed_in(moment, person):
    """What is owed by who perhaps sits: nought where nobody of that name does."""
    return owes(moment, person) if sits(moment, person) else NOUGHT


def poured(one, other):
    """The moment of both weights together: who sits in both owes what it owes in both."""
    ahead = [(person, plus(owed, owed_in(other, person))) for person, owed in one[1]]
    others = [(person, owed) for person, owed in other[1] if not sits(one, person)]
    return (one[0] + other[0], tuple(ahead + others))
