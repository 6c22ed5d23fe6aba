"""Who comes, and on which seat; who leaves."""

from whoserves.errors import NoName, Taken
from whoserves.moments import EMPTY, empty_seats, is_name, owing, seat_of, sits
from whoserves.parts import NOUGHT, is_less


def from_nought(one):
    """How far a part is from nought, either way."""
    return (abs(one[0]), one[1])


def seat_for(moment):
    """The number of the seat on which who comes would sit."""
    row = owing(moment)
    found = len(row)
    for seat in empty_seats(moment):
        if found == len(row) or is_less(from_nought(row[seat]), from_nought(row[found])):
            found = seat
    return found


def seated(moment, seat, person):
    """The moment with this person, or with nobody, on that seat, which owes what it owed, a new one nought."""
    weight, seats = moment
    owed = seats[seat][1] if seat < len(seats) else NOUGHT
    return (weight, seats[:seat] + ((person, owed),) + seats[seat + 1:])


def with_person(moment, person):
    """The moment behind the person's coming."""
    if not is_name(person):
        raise NoName("a name is a text of one to eight small letters")
    if sits(moment, person):
        raise Taken(person)
    return seated(moment, seat_for(moment), person)


def without_person(moment, person):
    """The moment behind the person's leaving."""
    return seated(moment, seat_of(moment, person), EMPTY)
