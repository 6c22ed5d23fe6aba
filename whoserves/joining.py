"""Two moments joined to one, and one parted to two."""

from whoserves.errors import Taken, Unbalanced, Unlike
from whoserves.moments import check_seats, check_within, owing, persons, sits
from whoserves.parts import NOUGHT, total


def joined(one, other):
    """The moment of the seats of the one and, behind them, of the other."""
    if one[0] != other[0]:
        raise Unlike("moments of unlike weights are not joined")
    for person in persons(one):
        if sits(other, person):
            raise Taken(person)
    return (one[0], one[1] + other[1])


def seats_alone(moment, numbers):
    """The moment of these seats alone; Beyond where it would be none."""
    weight, seats = moment
    found = (weight, tuple([seats[number] for number in numbers]))
    check_within(found, numbers)
    return found


def parted(moment, seats):
    """Two moments: of these seats, by their numbers, and of the others."""
    check_seats(moment, seats)
    row = owing(moment)
    owed = total([row[number] for number in seats])
    if owed != NOUGHT:
        raise Unbalanced(owed)
    others = [number for number in range(len(row)) if number not in seats]
    return (seats_alone(moment, sorted(seats)), seats_alone(moment, others))
