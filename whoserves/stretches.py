"""Evenings foretold, and stretches of a club: what each seat served, and what its shares were."""

from whoserves.errors import NoFact
from whoserves.evenings import behind_serving, served
from whoserves.parts import NOUGHT, minus, part, total


def foretold(moment, evenings):
    """Who would serve at each of the evenings, pairs of those there and duties, if they came next."""
    found = []
    now = moment
    for there, duties in evenings:
        done = served(now, there, duties)
        found.append(done)
        now = behind_serving(now, there, done)
    return found


def check_stretch(club, first, last):
    """Refuses with NoFact what are no numbers of a moment and of a later one, or the same."""
    for number in (first, last):
        # A club takes None for the moment of now, a stretch doesn't.
        if number is None:
            raise NoFact("a stretch goes from one moment's number to another one")
        club.moment(number)
    if last < first:
        raise NoFact("a stretch doesn't go from a moment to an earlier one")


def served_by(seat, fact):
    """What the seat served by a fact."""
    if fact[0] != "evening":
        return NOUGHT
    return part(sum([duty for server, duty in fact[2] if server == seat]))


def share_of(seat, fact):
    """The seat's share of duties by a fact."""
    if fact[0] != "evening" or seat not in fact[1]:
        return NOUGHT
    return part(sum([duty for server, duty in fact[2]]), len(fact[1]))


def given_to(seat, fact):
    """What the seat took over by a fact, less what it gave."""
    if fact[0] != "gift" or seat not in fact[1:3]:
        return NOUGHT
    return fact[3] if seat == fact[2] else minus(NOUGHT, fact[3])


def brought_by(seat, fact, many):
    """What the seat owed already when it came by a fact behind so many seats."""
    if fact[0] != "join" or not many <= seat < many + len(fact[1]):
        return NOUGHT
    return fact[1][seat - many][1]


def stretch(club, first, last):
    """For each seat of the later moment what it served, its shares, what was given to it and what it brought."""
    check_stretch(club, first, last)
    facts = club.facts()[first:last]
    seats_ahead = [len(club.moment(number)[1]) for number in range(first, last)]
    return [
        (
            total([served_by(seat, fact) for fact in facts]),
            total([share_of(seat, fact) for fact in facts]),
            total([given_to(seat, fact) for fact in facts]),
            total([brought_by(seat, fact, many) for fact, many in zip(facts, seats_ahead)]),
        )
        for seat in range(len(club.moment(last)[1]))
    ]
