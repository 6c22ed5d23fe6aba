"""Gifts: one takes over a part of what another owes; and the gifts that level."""

from whoserves.errors import NoGift
from whoserves.moments import owes, owing, persons, seat_of, with_row
from whoserves.parts import NOUGHT, is_less, is_part, minus, plus, shared, total


def may_be_given(given, difference):
    """Whether this is a part above nought and at most the difference: True or False, of anything."""
    return is_part(given) and is_less(NOUGHT, given) and not is_less(difference, given)


def row_with_gift(row, giver, taker, given):
    """The row behind a gift from the one place to the other."""
    found = list(row)
    found[giver] = minus(found[giver], given)
    found[taker] = plus(found[taker], given)
    return tuple(found)


def with_gift(moment, one, other, part):
    """The moment behind a gift: the other takes over this part of what the one owes."""
    giver = seat_of(moment, one)
    taker = seat_of(moment, other)
    row = owing(moment)
    if not may_be_given(part, minus(row[giver], row[taker])):
        raise NoGift("given is a part above nought, at most what the one owes more than the other")
    return with_row(moment, row_with_gift(row, giver, taker, part))


def first_greatest(row):
    """The first place of the greatest part."""
    found = 0
    for place, one in enumerate(row):
        if is_less(row[found], one):
            found = place
    return found


def first_least(row):
    """The first place of the least part."""
    found = 0
    for place, one in enumerate(row):
        if is_less(one, row[found]):
            found = place
    return found


def lesser(one, other):
    """The lesser of two parts."""
    return one if is_less(one, other) else other


def above_average(row):
    """What each part of the row, one or more, is above the average of all."""
    average = shared(total(row), len(row))
    return tuple([minus(one, average) for one in row])


def levelling(moment):
    """The gifts that level the persons: tuples of who gives, who takes, and the part."""
    sitting = persons(moment)
    gifts = []
    if not sitting:
        return gifts
    above = above_average([owes(moment, person) for person in sitting])
    while any([one != NOUGHT for one in above]):
        giver = first_greatest(above)
        taker = first_least(above)
        given = lesser(above[giver], minus(NOUGHT, above[taker]))
        gifts.append((sitting[giver], sitting[taker], given))
        above = row_with_gift(above, giver, taker, given)
    return gifts


def levelled(moment):
    """The moment behind all the gifts that level."""
    found = moment
    for one, other, given in levelling(moment):
        found = with_gift(found, one, other, given)
    return found
