"""Moments: a weight, and who sits on which seat and owes what."""

from whoserves.errors import Beyond, NoPerson, NoSeat, NoWeight
from whoserves.parts import is_part, is_whole, total
from whoserves.sums import is_within, places_beyond

EMPTY = ""


def is_name(thing):
    """Whether this is a text of one to eight small letters."""
    if not isinstance(thing, str) or not 1 <= len(thing) <= 8:
        return False
    return all(["a" <= sign <= "z" for sign in thing])


def is_weight(thing):
    """Whether this is a whole number from 1 on."""
    return is_whole(thing) and thing >= 1


def is_pair(thing):
    """Whether this is a tuple of two things."""
    return isinstance(thing, tuple) and len(thing) == 2


def is_seat(thing):
    """Whether this is a pair of a name, or of what marks an empty seat, and a part."""
    if not is_pair(thing):
        return False
    person, owed = thing
    # An empty seat's mark is asked for as a text: other things may be equal to one.
    is_empty = isinstance(person, str) and person == EMPTY
    return (is_empty or is_name(person)) and is_part(owed)


def is_moment(thing):
    """Whether this is a moment: True or False, of anything."""
    if not is_pair(thing):
        return False
    weight, seats = thing
    if not is_weight(weight) or not isinstance(seats, tuple):
        return False
    if not all([is_seat(seat) for seat in seats]):
        return False
    sitting = persons(thing)
    return len(set(sitting)) == len(sitting) and is_within(weight, owing(thing))


def check_weight(weight):
    """Refuses with NoWeight what is no weight."""
    if not is_weight(weight):
        raise NoWeight("a weight is a whole number from 1 on")


def moment_of(weight):
    """The moment of this weight that has no seats."""
    check_weight(weight)
    return (weight, ())


def owing(moment):
    """What the seats owe, as a row."""
    return tuple([owed for person, owed in moment[1]])


def with_row(moment, row):
    """The moment with the same persons on its seats, which owe what the row says."""
    weight, seats = moment
    return (weight, tuple([(person, owed) for (person, before), owed in zip(seats, row)]))


def persons(moment):
    """The persons that sit, by their seats."""
    return [person for person, owed in moment[1] if person != EMPTY]


def empty_seats(moment):
    """The numbers of the empty seats, rising."""
    return [number for number, (person, owed) in enumerate(moment[1]) if person == EMPTY]


def kitty(moment):
    """What the empty seats owe together."""
    return total([owed for person, owed in moment[1] if person == EMPTY])


def sits(moment, person):
    """Whether this is a person that sits: True or False, of anything."""
    return isinstance(person, str) and person in persons(moment)


def seat_of(moment, person):
    """The number of the seat on which the person sits."""
    if not sits(moment, person):
        raise NoPerson("no such person sits")
    return [sitting for sitting, owed in moment[1]].index(person)


def owes(moment, person):
    """What the person owes."""
    return owing(moment)[seat_of(moment, person)]


def check_seats(moment, seats):
    """Refuses with NoSeat what is no tuple of unlike numbers of seats."""
    if not isinstance(seats, tuple):
        raise NoSeat("the numbers of seats are a tuple")
    many = len(moment[1])
    if not all([is_whole(seat) and 0 <= seat < many for seat in seats]):
        raise NoSeat("there is no seat of this number")
    if len(set(seats)) != len(seats):
        raise NoSeat("the numbers of seats are unlike")


def check_within(moment, numbers):
    """Refuses with Beyond, its seats by these numbers, where the row falls by the weight."""
    weight = moment[0]
    places = places_beyond(weight, owing(moment))
    if places:
        raise Beyond(len(places), tuple([numbers[place] for place in places]))
