"""Facts: what a deed makes, and the moment behind it."""

from whoserves.coming import seat_for, seated, with_person
from whoserves.errors import NoDeed
from whoserves.evenings import row_behind, served
from whoserves.gifts import row_with_gift, with_gift
from whoserves.joining import joined
from whoserves.moments import EMPTY, owing, seat_of, with_row
from whoserves.offers import offered
from whoserves.pouring import weighed

# The makers of facts below call what does a deed for its refusals alone: a fact
# tells no moment, so that it stays when what seats owe is reckoned anew.


def coming_fact(moment, person):
    """The fact of a person's coming."""
    with_person(moment, person)
    return ("come", person, seat_for(moment))


def leaving_fact(moment, person):
    """The fact of a person's leaving."""
    return ("leave", person, seat_of(moment, person))


def fact_of_serving(moment, there, done):
    """The fact of an evening at which these pairs of a person and a duty were done."""
    seats = sorted([seat_of(moment, person) for person in there])
    by_seats = [(seat_of(moment, person), duty) for person, duty in done]
    return ("evening", tuple(seats), tuple(by_seats))


def evening_fact(moment, there, duties):
    """The fact of an evening served by the rule."""
    return fact_of_serving(moment, there, served(moment, there, duties))


def offer_fact(moment, there, said):
    """The fact of an evening served as it was said."""
    offered(moment, there, said)
    return fact_of_serving(moment, there, said)


def gift_fact(moment, one, other, given):
    """The fact of a gift."""
    with_gift(moment, one, other, given)
    return ("gift", seat_of(moment, one), seat_of(moment, other), given)


def joining_fact(moment, other):
    """The fact of a joining."""
    joined(moment, other)
    return ("join", other[1])


def weighing_fact(moment, weight):
    """The fact of a weighing."""
    weighed(moment, weight)
    return ("weigh", weight)


MAKERS = {
    "come": coming_fact,
    "leave": leaving_fact,
    "evening": evening_fact,
    "offer": offer_fact,
    "gift": gift_fact,
    "join": joining_fact,
    "weigh": weighing_fact,
}
LENGTHS = {"come": 2, "leave": 2, "evening": 3, "offer": 3, "gift": 4, "join": 2, "weigh": 2}


def is_deed(thing):
    """Whether this is a tuple of a deed's word and as many things more as it has: True or False, of anything."""
    if not isinstance(thing, tuple) or len(thing) == 0:
        return False
    word = thing[0]
    return isinstance(word, str) and word in LENGTHS and len(thing) == LENGTHS[word]


def fact_of(moment, deed):
    """The fact that a deed would make."""
    if not is_deed(deed):
        raise NoDeed("a deed is a tuple of its word and what belongs to it")
    make = MAKERS[deed[0]]
    things = deed[1:]
    return make(moment, *things)


def behind_coming(moment, person, seat):
    """The moment behind the fact of a coming."""
    return seated(moment, seat, person)


def behind_leaving(moment, person, seat):
    """The moment behind the fact of a leaving."""
    return seated(moment, seat, EMPTY)


def behind_evening(moment, seats, done):
    """The moment behind the fact of an evening."""
    return with_row(moment, row_behind(owing(moment), seats, done))


def behind_gift(moment, giver, taker, given):
    """The moment behind the fact of a gift."""
    return with_row(moment, row_with_gift(owing(moment), giver, taker, given))


def behind_joining(moment, pairs):
    """The moment behind the fact of a joining."""
    return (moment[0], moment[1] + pairs)


def behind_weighing(moment, weight):
    """The moment behind the fact of a weighing."""
    return (weight, moment[1])


STEPS = {
    "come": behind_coming,
    "leave": behind_leaving,
    "evening": behind_evening,
    "gift": behind_gift,
    "join": behind_joining,
    "weigh": behind_weighing,
}


def moment_by(moment, fact):
    """The pair of the moment behind a fact; its row may be within no more, as may that of the one ahead."""
    step = STEPS[fact[0]]
    things = fact[1:]
    return step(moment, *things)
