"""Offers: those there say themselves who serves what."""

from whoserves.errors import NoDuty
from whoserves.evenings import behind_serving, check_there, is_duty
from whoserves.moments import check_within, is_pair


def is_person_of(there, thing):
    """Whether this is one of those there: True or False, of anything."""
    return isinstance(thing, str) and thing in there


def check_said(moment, there, said):
    """Refuses with NoDuty what is no offer of those there."""
    if not isinstance(said, tuple) or not all([is_pair(pair) for pair in said]):
        raise NoDuty("an offer is a tuple of pairs")
    if not all([is_person_of(there, person) and is_duty(moment, duty) for person, duty in said]):
        raise NoDuty("in an offer persons that are there serve whole numbers from 1 to the weight")
    if len({person for person, duty in said}) != len(said):
        raise NoDuty("nobody serves twice in an offer")


def offered(moment, there, said):
    """The moment behind an evening at which an offer was done."""
    check_there(moment, there)
    check_said(moment, there, said)
    found = behind_serving(moment, there, said)
    check_within(found, list(range(len(found[1]))))
    return found
