"""Evenings: who serves what, by the rule, and what is owed behind."""

from whoserves.errors import NoDuty, NoEvening
from whoserves.moments import owing, seat_of, sits, with_row
from whoserves.parts import is_whole, minus, part, plus
from whoserves.sums import greatest_first


def check_there(moment, there):
    """Refuses with NoEvening what is no tuple of two or more unlike persons that sit."""
    if not isinstance(there, tuple) or len(there) < 2:
        raise NoEvening("those there are a tuple of two or more persons")
    if not all([sits(moment, person) for person in there]):
        raise NoEvening("those there are persons that sit")
    if len(set(there)) != len(there):
        raise NoEvening("nobody is there twice")


def is_duty(moment, thing):
    """Whether this is a whole number from 1 to the moment's weight."""
    return is_whole(thing) and 1 <= thing <= moment[0]


def check_duties(moment, there, duties):
    """Refuses with NoDuty what are no duties of an evening at which these are there."""
    if not isinstance(duties, tuple) or len(duties) > len(there):
        raise NoDuty("duties are a tuple, of no more than persons are there")
    if not all([is_duty(moment, duty) for duty in duties]):
        raise NoDuty("a duty is a whole number from 1 to the weight")


def in_order(moment, there):
    """Those there by what they owe, the greatest first, of equal ones by their seats."""
    check_there(moment, there)
    # By their seats first, so that the lesser place is the lesser seat.
    by_seats = sorted(there, key=lambda person: seat_of(moment, person))
    row = owing(moment)
    owed = tuple([row[seat_of(moment, person)] for person in by_seats])
    return tuple([by_seats[place] for place in greatest_first(owed)])


def served(moment, there, duties):
    """Who serves what: pairs of a person and a duty, the greatest duty first."""
    order = in_order(moment, there)
    check_duties(moment, there, duties)
    return tuple(zip(order, sorted(duties, reverse=True)))


def row_behind(row, seats, done):
    """What is owed behind an evening, by the seats of those there and pairs of a seat and a duty."""
    share = part(sum([duty for seat, duty in done]), len(seats))
    found = list(row)
    for seat in seats:
        found[seat] = plus(found[seat], share)
    for seat, duty in done:
        found[seat] = minus(found[seat], part(duty))
    return tuple(found)


def behind_serving(moment, there, done):
    """The moment behind an evening at which these pairs of a person and a duty were done."""
    seats = [seat_of(moment, person) for person in there]
    by_seats = [(seat_of(moment, person), duty) for person, duty in done]
    return with_row(moment, row_behind(owing(moment), seats, by_seats))


def behind(moment, there, duties):
    """The moment behind an evening served by the rule."""
    return behind_serving(moment, there, served(moment, there, duties))
