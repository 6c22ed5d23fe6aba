"""The refusals: whoever catches ClubError catches them all."""


class ClubError(ValueError):
    """Any refusal, made of a text."""


class NoPart(ClubError):
    """No part can be made of this."""


class NoName(ClubError):
    """This is no name."""


class NoWeight(ClubError):
    """This is no weight."""


class NoPerson(ClubError):
    """No such person sits."""


class NoSeat(ClubError):
    """These are no numbers of seats."""


class NoEvening(ClubError):
    """These cannot be those there at an evening."""


class NoDuty(ClubError):
    """These are no duties of an evening."""


class NoGift(ClubError):
    """This part may not be given."""


class Unlike(ClubError):
    """These two do not go together."""


class NoFact(ClubError):
    """There is no fact, or moment, of this number."""


class NoBack(ClubError):
    """So many facts cannot be taken back."""


class NoDeed(ClubError):
    """This is no deed."""


class NoText(ClubError):
    """This text is not so written."""


class NoRow(ClubError):
    """This is no row of words that a desk takes."""


# Those below leave the text to Python, which shows their values: a number in
# them may have more figures than str writes, so none is put into a text here.


class Taken(ClubError):
    """The person sits already."""

    def __init__(self, person):
        self.person = person


class Beyond(ClubError):
    """So many seats, these, would owe more than their most."""

    def __init__(self, many, seats):
        self.many = many
        self.seats = seats


class Unbalanced(ClubError):
    """The seats owe something together, where they should owe nought."""

    def __init__(self, owed):
        self.owed = owed


class Astray(ClubError):
    """At this moment so many seats, these, would owe more than their most."""

    def __init__(self, at, many, seats):
        self.at = at
        self.many = many
        self.seats = seats
