"""Layers of duties, and what seats owe more by one of them."""

from whoserves.errors import NoDuty
from whoserves.evenings import in_order
from whoserves.moments import check_seats, seat_of
from whoserves.parts import is_whole, minus, part


def layers(duties):
    """Pairs: how many serve in a layer, and what it weighs."""
    ranked = sorted(duties, reverse=True)
    following = ranked[1:] + [0]
    steps = [duty - least for duty, least in zip(ranked, following)]
    return tuple([(many, weighs) for many, weighs in enumerate(steps, start=1) if weighs > 0])


def layer_change(moment, there, many, seats):
    """What the seats owe more together by a layer of so many, which weighs 1."""
    order = in_order(moment, there)
    if not is_whole(many) or not 1 <= many <= len(order):
        raise NoDuty("a layer is served by one or more, at most by all that are there")
    check_seats(moment, seats)
    are_these = [seat_of(moment, person) in seats for person in order]
    share_of_all = part(many * are_these.count(True), len(order))
    return minus(share_of_all, part(are_these[:many].count(True)))
