"""Vouchers: what some seats owe behind an evening, shown by numbers alone."""

from whoserves.evenings import check_duties, check_there, in_order
from whoserves.layers import layer_change, layers
from whoserves.moments import check_seats, is_weight, owing, seat_of
from whoserves.parts import is_less, is_part, is_whole, minus, part, plus, times, total
from whoserves.sums import most


def row_of_layer(moment, there, layer, seats):
    """The row of a voucher, for these seats, that tells of one layer of an evening."""
    many, weighs = layer
    owed = owing(moment)
    order = [seat_of(moment, person) for person in in_order(moment, there)]
    resting = [seat for seat in order[many:] if seat in seats]
    others = [seat for seat in order[:many] if seat not in seats]
    less = total([owed[seat] for seat in seats if seat not in resting])
    more = total([owed[seat] for seat in seats + tuple(others)])
    return (weighs, len(resting), len(others), less, more, layer_change(moment, there, many, seats))


def voucher_of(moment, there, duties, seats):
    """The voucher of an evening for some seats."""
    check_there(moment, there)
    check_duties(moment, there, duties)
    check_seats(moment, seats)
    owed = owing(moment)
    rows = [row_of_layer(moment, there, layer, seats) for layer in layers(duties)]
    return (len(owed), len(seats), total([owed[seat] for seat in seats]), tuple(rows))


def is_number_to(thing, last):
    """Whether this is a whole number from 0 to the last one: True or False, of anything."""
    return is_whole(thing) and 0 <= thing <= last


def is_part_to(thing, last):
    """Whether this is a part, the last one at the most: True or False, of anything."""
    return is_part(thing) and not is_less(last, thing)


def row_holds(weight, head, thing):
    """Whether this is a row that holds behind the head of a voucher: True or False, of anything."""
    if not isinstance(thing, tuple) or len(thing) != 6:
        return False
    seats, many, owed = head
    weighs, resting, others, less, more, change = thing
    if not is_weight(weighs) or not is_number_to(resting, many) or not is_number_to(others, seats - many):
        return False
    if not is_part_to(less, most(weight, seats, many - resting)):
        return False
    if not is_part_to(more, most(weight, seats, many + others)):
        return False
    # Who serves owes no less than who rests: so it is on an average, too.
    if is_less(times(minus(more, owed), resting), times(minus(owed, less), others)):
        return False
    return is_part_to(change, part(resting * others, 2))


def head_holds(weight, seats, many, owed):
    """Whether these may stand ahead of the rows of a voucher: True or False, of anything."""
    if not is_whole(seats) or not is_number_to(many, seats):
        return False
    return is_part_to(owed, most(weight, seats, many))


def voucher_holds(weight, thing):
    """Whether this is a voucher that holds by the weight: True or False, of anything."""
    if not isinstance(thing, tuple) or len(thing) != 4:
        return False
    seats, many, owed, rows = thing
    if not head_holds(weight, seats, many, owed) or not isinstance(rows, tuple):
        return False
    if not all([row_holds(weight, (seats, many, owed), line) for line in rows]):
        return False
    return sum([line[0] for line in rows]) <= weight


def vouched(voucher):
    """What the seats owe behind the evening, by a voucher that holds."""
    found = voucher[2]
    for line in voucher[3]:
        found = plus(found, times(line[5], line[0]))
    return found
