"""A club reckoned by the tests themselves, with Fraction, and random deeds to try it with."""

import re
from fractions import Fraction

from tests.made import first_fall, number, random_row, told
from whoserves.errors import ClubError

PEOPLE = ("ann", "bob", "cid", "dan", "eva", "fay", "gus", "hal", "ida", "jon", "kim", "lea", "mia", "ned", "ola")


class Refusal(Exception):
    """A refusal as the ledger tells it: the name of the class, and its values."""

    def __init__(self, kind, **values):
        self.kind = kind
        self.values = values


def outcome(call, *given, **named):
    """What a call tells, or its refusal, by the class and its values."""
    try:
        return ("told", call(*given, **named))
    except ClubError as refusal:
        return ("refused", refusal.__class__.__name__, vars(refusal))
    except Refusal as refusal:
        return ("refused", refusal.kind, refusal.values)


class State:
    """A moment as lists: who sits, and what is owed, as numbers."""

    def __init__(self, weight, names=(), row=()):
        self.weight = weight
        self.names = list(names)
        self.row = list(row)

    def moment(self):
        """The moment as the program tells it."""
        return (self.weight, tuple(zip(self.names, [told(one) for one in self.row])))

    def people(self):
        """Who sits."""
        return [name for name in self.names if name]

    def seat(self, name):
        """The seat of a person; refused where it doesn't sit."""
        if name not in self.people():
            raise Refusal("NoPerson")
        return self.names.index(name)

    def check_row(self, kind="Beyond", **values):
        """Refuses where the row is no longer within the weight."""
        fallen = first_fall(self.weight, self.row)
        if fallen:
            raise Refusal(kind, many=fallen[0], seats=fallen[1], **values)

    def after(self, fact):
        """The state behind a fact."""
        found = State(self.weight, self.names, self.row)
        getattr(found, fact[0])(*fact[1:])
        return found

    def come(self, name, seat):
        if seat == len(self.names):
            self.names.append("")
            self.row.append(Fraction(0))
        self.names[seat] = name

    def leave(self, name, seat):
        self.names[seat] = ""

    def evening(self, seats, done):
        for seat in seats:
            self.row[seat] += Fraction(sum(duty for server, duty in done), len(seats))
        for seat, duty in done:
            self.row[seat] -= duty

    def gift(self, one, other, part):
        self.row[one] -= number(part)
        self.row[other] += number(part)

    def join(self, pairs):
        self.names += [name for name, owes in pairs]
        self.row += [number(owes) for name, owes in pairs]

    def weigh(self, weight):
        self.weight = weight


class Maker:
    """What deeds make at a state: for each word a pair of the fact and of what is told."""

    def __init__(self, state):
        self.state = state

    def come(self, name):
        if not re.fullmatch("[a-z]{1,8}", name):
            raise Refusal("NoName")
        if name in self.state.people():
            raise Refusal("Taken", person=name)
        empty = [seat for seat, sitting in enumerate(self.state.names) if not sitting]
        seat = min(empty, key=lambda at: (abs(self.state.row[at]), at), default=len(self.state.names))
        return ("come", name, seat), (seat, told((self.state.row + [0])[seat]))

    def leave(self, name):
        seat = self.state.seat(name)
        return ("leave", name, seat), told(self.state.row[seat])

    def check_there(self, there):
        if len(there) < 2 or len(set(there)) < len(there) or not set(there) <= set(self.state.people()):
            raise Refusal("NoEvening")

    def check_duties(self, there, duties):
        if len(duties) > len(there) or not all(1 <= duty <= self.state.weight for duty in duties):
            raise Refusal("NoDuty")

    def seats(self, there):
        return tuple(sorted(self.state.seat(name) for name in there))

    def evening(self, there, duties):
        self.check_there(there)
        self.check_duties(there, duties)
        order = sorted(self.seats(there), key=lambda seat: (-self.state.row[seat], seat))
        done = tuple(zip(order, sorted(duties, reverse=True)))
        return ("evening", self.seats(there), done), tuple((self.state.names[seat], duty) for seat, duty in done)

    def offer(self, there, said):
        self.check_there(there)
        self.check_duties(there, [duty for name, duty in said])
        names = [name for name, duty in said]
        if len(set(names)) < len(names) or not set(names) <= set(there):
            raise Refusal("NoDuty")
        fact = ("evening", self.seats(there), tuple((self.state.seat(name), duty) for name, duty in said))
        self.state.after(fact).check_row()
        return fact, None

    def gift(self, one, other, part):
        giver, taker = self.state.seat(one), self.state.seat(other)
        if not 0 < number(part) <= self.state.row[giver] - self.state.row[taker]:
            raise Refusal("NoGift")
        return ("gift", giver, taker, part), None

    def join(self, moment):
        if moment[0] != self.state.weight:
            raise Refusal("Unlike")
        for name in self.state.people():
            if name in [sitting for sitting, owes in moment[1]]:
                raise Refusal("Taken", person=name)
        return ("join", moment[1]), None

    def weigh(self, weight):
        if weight < 1:
            raise Refusal("NoWeight")
        self.state.after(("weigh", weight)).check_row()
        return ("weigh", weight), None


class Ledger:
    """The history of a club, by its facts alone; all else is reckoned anew whenever it is asked for."""

    def __init__(self, weight):
        self.weight = weight
        self.facts = []

    def states(self, facts=None):
        """The states of the history, or of one by other facts."""
        found = [State(self.weight)]
        for fact in self.facts if facts is None else facts:
            found.append(found[-1].after(fact))
        return found

    def do(self, deed):
        fact, telling = getattr(Maker(self.states()[-1]), deed[0])(*deed[1:])
        self.facts.append(fact)
        return telling

    def do_all(self, deeds):
        many = len(self.facts)
        try:
            return [self.do(deed) for deed in deeds]
        except Refusal:
            del self.facts[many:]
            raise

    def back(self, many):
        if not 0 <= many <= len(self.facts):
            raise Refusal("NoBack")
        del self.facts[len(self.facts) - many:]

    def payments(self, facts=None):
        facts = self.facts if facts is None else facts
        rows = [state.row for state in self.states(facts)]
        signs = {"come": -1, "leave": 1}
        return [
            (at, fact[1], told(signs[fact[0]] * rows[at + 1][fact[2]]))
            for at, fact in enumerate(facts) if fact[0] in signs
        ]

    def set_right(self, at, there):
        if not 0 <= at < len(self.facts) or self.facts[at][0] != "evening":
            raise Refusal("NoFact")
        maker = Maker(self.states()[at])
        maker.check_there(there)
        seats, done = maker.seats(there), self.facts[at][2]
        if not {seat for seat, duty in done} <= set(seats):
            raise Refusal("NoEvening")
        facts = self.facts[:at] + [("evening", seats, done)] + self.facts[at + 1:]
        for place, state in enumerate(self.states(facts)):
            state.check_row("Astray", at=place)
        pairs = zip(self.payments(facts), self.payments())
        found = [(at, name, told(number(now) - number(before))) for (at, name, now), (*same, before) in pairs
                 if now != before]
        self.facts = facts
        return found

    def stretch(self, first, last):
        """For each seat what it served, its shares, what was given to it, and what it brought."""
        states = self.states()
        rows = [[Fraction(0)] * 4 for seat in states[last].names]
        for state, fact in zip(states[first:last], self.facts[first:last]):
            if fact[0] == "evening":
                for seat, duty in fact[2]:
                    rows[seat][0] += duty
                    for other in fact[1]:
                        rows[other][1] += Fraction(duty, len(fact[1]))
            if fact[0] == "gift":
                rows[fact[1]][2] -= number(fact[3])
                rows[fact[2]][2] += number(fact[3])
            if fact[0] == "join":
                for place, (name, owes) in enumerate(fact[1]):
                    rows[len(state.names) + place][3] = number(owes)
        return [tuple(told(one) for one in row) for row in rows]


def random_duties(chance, weight, many):
    """So many duties, some of them the greatest that there may be."""
    return tuple(chance.choice((1, weight, weight, chance.randint(1, weight))) for turn in range(many))


def random_there(chance, people):
    """Some two or more of the people, in any order."""
    return tuple(chance.sample(people, chance.randint(2, len(people))))


def evening_deed(chance, state):
    there = random_there(chance, state.people())
    return ("evening", there, random_duties(chance, state.weight, chance.randint(0, len(there))))


def offer_deed(chance, state):
    """An offer by which, now and then, just those serve that are owed most already."""
    there = random_there(chance, state.people())
    servers = chance.sample(there, chance.randint(0, len(there)))
    if chance.random() < 0.5:
        servers = sorted(there, key=lambda name: state.row[state.seat(name)])[:len(servers)]
    return ("offer", there, tuple(zip(servers, random_duties(chance, state.weight, len(servers)))))


def gift_deed(chance, state):
    one, other = sorted(chance.sample(state.people(), 2), key=state.seat, reverse=chance.random() < 0.5)
    more = state.row[state.seat(one)] - state.row[state.seat(other)]
    share = chance.choice((Fraction(1), Fraction(1, 2), Fraction(chance.randint(1, 60), 60)))
    return ("gift", one, other, told(more * share))


def join_deed(chance, state):
    away = [name for name in PEOPLE if name not in state.people()]
    names = chance.sample(away, min(len(away), chance.randint(0, 3))) + [""] * chance.randint(0, 1)
    chance.shuffle(names)
    row = random_row(chance, state.weight, len(names))
    return ("join", (state.weight, tuple(zip(names, map(told, row)))))


def weigh_deed(chance, state):
    return ("weigh", chance.choice((state.weight, state.weight + 1, max(1, state.weight - 1), 1, 12)))


def wrong_deed(chance, state):
    """A deed that is refused, mostly."""
    people = state.people() + ["nobody"]
    one, other = chance.choice(people), chance.choice(people)
    return chance.choice((
        ("come", one), ("come", "Ann"), ("leave", "nobody"), ("evening", (one, other), (1,)), ("evening", (one,), ()),
        ("evening", (one, other), (1, 1, 1)), ("evening", (one, other), (state.weight + 1,)), ("weigh", 0),
        ("offer", (one, other), ((one, 1), (one, 1))), ("offer", (one, other), (("eva", 1),)),
        ("gift", one, other, (10 ** 31, 1)), ("gift", one, other, (0, 1)), ("gift", other, one, (-1, 2)),
        ("join", (state.weight + 1, ())), ("join", (state.weight, (("ann", (0, 1)), ("bob", (0, 1))))),
    ))


def random_deed(chance, state, *, most_seats=10):
    """A deed at a state, most often one that is let."""
    away = [name for name in PEOPLE if name not in state.people()]
    if chance.random() < 0.08:
        return wrong_deed(chance, state)
    if len(state.people()) < 2 or (len(state.names) < most_seats and chance.random() < 0.15):
        return ("come", chance.choice(away))
    choice = chance.random()
    if choice < 0.1:
        return ("leave", chance.choice(state.people()))
    if choice < 0.17:
        return weigh_deed(chance, state)
    if choice < 0.22 and len(state.names) < most_seats:
        return join_deed(chance, state)
    if choice < 0.32:
        return gift_deed(chance, state)
    if choice < 0.5:
        return offer_deed(chance, state)
    return evening_deed(chance, state)


def random_right(chance, ledger):
    """An evening of the ledger, or another fact now and then, and who may have been there instead."""
    evenings = [at for at, fact in enumerate(ledger.facts) if fact[0] == "evening"]
    if not evenings or chance.random() < 0.05:
        return (chance.randint(-1, len(ledger.facts)), ("ann", "bob"))
    at = chance.choice(evenings)
    state = ledger.states()[at]
    there = [state.names[seat] for seat, duty in ledger.facts[at][2]]
    if chance.random() < 0.1:
        there = there[1:]
    others = [name for name in state.people() if name not in there]
    there += chance.sample(others, chance.randint(0, len(others)))
    chance.shuffle(there)
    return (at, tuple(there))
