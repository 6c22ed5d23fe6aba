"""Clubs: histories of facts and moments, in which an old evening can be set right."""

from whoserves.errors import Astray, NoBack, NoEvening, NoFact
from whoserves.evenings import check_there
from whoserves.facts import fact_of, moment_by
from whoserves.moments import moment_of, owing, seat_of
from whoserves.parts import NOUGHT, is_whole, minus
from whoserves.sums import places_beyond


def is_number_below(thing, many):
    """Whether this is a whole number from 0 on, less than so many: True or False, of anything."""
    return is_whole(thing) and 0 <= thing < many


def told_of(deed, fact, moment):
    """What a deed tells that made this fact, by the moment behind it."""
    word = deed[0]
    if word == "come":
        return (fact[2], owing(moment)[fact[2]])
    if word == "leave":
        return owing(moment)[fact[2]]
    if word == "evening":
        return tuple([(moment[1][seat][0], duty) for seat, duty in fact[2]])
    return None


def paid_by(fact, moment):
    """What who came or left paid to the kitty, by the moment behind the fact."""
    word, person, seat = fact
    owed = owing(moment)[seat]
    return owed if word == "leave" else minus(NOUGHT, owed)


def payments_in(facts, moments):
    """The payments of a history: tuples of the fact's number, the person and the part."""
    return [
        (number, fact[1], paid_by(fact, moments[number + 1]))
        for number, fact in enumerate(facts)
        if fact[0] in ("come", "leave")
    ]


def payments_more(payments, payments_before):
    """For each payment that is another one than before how much more is to be paid."""
    return [
        (now[0], now[1], minus(now[2], before[2]))
        for now, before in zip(payments, payments_before)
        if now[2] != before[2]
    ]


def moments_by(moment, facts):
    """The moment and, one behind the other, those that facts make of it."""
    found = [moment]
    for fact in facts:
        found.append(moment_by(found[-1], fact))
    return found


def check_moments(moments):
    """Refuses with Astray where the row of a moment isn't within its weight."""
    for at, moment in enumerate(moments):
        places = places_beyond(moment[0], owing(moment))
        if places:
            raise Astray(at, len(places), tuple(places))


def seats_there(moment, there, fact):
    """The seats of those who were there instead, rising, at an evening's fact; else NoEvening."""
    check_there(moment, there)
    seats = sorted([seat_of(moment, person) for person in there])
    if not all([seat in seats for seat, duty in fact[2]]):
        raise NoEvening("who served was there")
    return tuple(seats)


class Club:
    """A history: facts, numbered from 0, and one moment more, ahead of and behind each of them."""

    def __init__(self, weight=1, *, persons=()):
        self.first_weight = weight
        self.fact_list = []
        self.moment_list = [moment_of(weight)]
        for person in persons:
            self.come(person)

    def __eq__(self, other):
        return (isinstance(other, Club) and self.first_weight == other.first_weight
                and self.fact_list == other.fact_list)

    def __len__(self):
        return len(self.fact_list)

    def come(self, person):
        """The person comes: its seat, and what it was paid."""
        return self.do(("come", person))

    def leave(self, person):
        """The person leaves: what it paid."""
        return self.do(("leave", person))

    def evening(self, there, duties):
        """An evening served by the rule: who served what."""
        return self.do(("evening", there, duties))

    def offer(self, there, said):
        """An evening served as it is said."""
        return self.do(("offer", there, said))

    def gift(self, one, other, *, part):
        """The other takes over a part of what the one owes."""
        return self.do(("gift", one, other, part))

    def join(self, moment):
        """The seats of a moment come behind all others."""
        return self.do(("join", moment))

    def weigh(self, weight):
        """The club has another weight from now on."""
        return self.do(("weigh", weight))

    def do(self, deed):
        """Does a deed, and tells what it tells."""
        fact = fact_of(self.moment(), deed)
        found = moment_by(self.moment(), fact)
        self.fact_list.append(fact)
        self.moment_list.append(found)
        return told_of(deed, fact, found)

    def do_all(self, deeds):
        """Does several deeds, or none where one is refused: what each tells."""
        # They are tried out on a twin, so that a refusal in the middle leaves nothing done here.
        trial = self.twin()
        tellings = [trial.do(deed) for deed in deeds]
        self.fact_list = trial.fact_list
        self.moment_list = trial.moment_list
        return tellings

    def moment(self, number=None):
        """The moment of this number, or that of now."""
        if number is None:
            return self.moment_list[-1]
        if not is_number_below(number, len(self.moment_list)):
            raise NoFact("no moment has this number")
        return self.moment_list[number]

    def facts(self):
        """All facts."""
        return list(self.fact_list)

    def payments(self):
        """The payments of all who came and left."""
        return payments_in(self.fact_list, self.moment_list)

    def back(self, many=1):
        """Takes so many last facts back."""
        if not is_number_below(many, len(self.moment_list)):
            raise NoBack("there are not so many facts to take back")
        left = len(self.fact_list) - many
        self.fact_list = self.fact_list[:left]
        self.moment_list = self.moment_list[:left + 1]

    def set_right(self, number, there):
        """Others were there at this evening: how much more was to be paid, where it is another payment."""
        if not is_number_below(number, len(self.fact_list)) or self.fact_list[number][0] != "evening":
            raise NoFact("no evening's fact has this number")
        fact = self.fact_list[number]
        right = ("evening", seats_there(self.moment_list[number], there, fact), fact[2])
        facts = self.fact_list[:number] + [right] + self.fact_list[number + 1:]
        moments = moments_by(self.moment_list[0], facts)
        check_moments(moments)
        before = self.payments()
        self.fact_list = facts
        self.moment_list = moments
        return payments_more(self.payments(), before)

    def twin(self):
        """A club of the same history, of its own."""
        other = Club(self.first_weight)
        other.fact_list = list(self.fact_list)
        other.moment_list = list(self.moment_list)
        return other
