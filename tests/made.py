"""Moments to test with, made and looked at without the program: Fraction reckons."""

from fractions import Fraction
from random import Random
from string import ascii_lowercase

from tests.things import Flatterer, strangers

TINY = Fraction(1, 10 ** 50)


def told(number):
    """The part that a number stands for."""
    number = Fraction(number)
    return (number.numerator, number.denominator)


def number(one):
    """What a part stands for."""
    return Fraction(one[0], one[1])


def made(weight, text=""):
    """A moment, of a text such as "ann 1/2, - 0, bob -1/2", where - is an empty seat."""
    pairs = [words.split() for words in text.split(",") if words.strip()]
    return (weight, tuple(("" if person == "-" else person, told(Fraction(owes))) for person, owes in pairs))


def numbers(moment):
    """What the seats of a moment owe, as numbers."""
    return [number(owes) for person, owes in moment[1]]


def owed(moment):
    """What each person of a moment owes, as numbers."""
    return {person: number(owes) for person, owes in moment[1] if person}


def seats_by_name(moment):
    """The seat's number of each person of a moment."""
    return {person: seat for seat, (person, owes) in enumerate(moment[1]) if person}


def first_fall(weight, row):
    """The least k at which numbers come to more than the most, and the places of the k greatest, or None."""
    places = sorted(range(len(row)), key=lambda place: (-row[place], place))
    for many in range(len(row) + 1):
        if sum([row[place] for place in places[:many]]) > Fraction(weight * many * (len(row) - many), 2):
            return (many, tuple(places[:many]))
    return None


def widest(weight, seats):
    """The row of the rising numbers that reaches the most for each k."""
    return [Fraction(weight * (2 * seat - seats + 1), 2) for seat in range(seats)]


def random_row(chance, weight, seats):
    """A row within the weight: some orders of the widest row, mixed; perhaps just one of them."""
    mixed = [Fraction(0)] * seats
    shares = [chance.randint(1, 9) for turn in range(chance.randint(1, 4))]
    for share in shares:
        order = widest(weight, seats)
        chance.shuffle(order)
        mixed = [one + Fraction(share, sum(shares)) * other for one, other in zip(mixed, order)]
    return mixed


def random_moment(chance, *, most_seats=7, names="", empty=True):
    """A moment with persons of these letters, or of any, and perhaps empty seats."""
    weight = chance.choice((1, 1, 2, 3, 7, 12, 10 ** 29 + 7))
    people = chance.sample(names or ascii_lowercase, chance.randint(0, most_seats))
    if empty:
        people = [chance.choice((person, person, person, "")) for person in people]
    row = random_row(chance, weight, len(people))
    return (weight, tuple(zip(people, [told(one) for one in row])))


def random_moments(seed, many, **how):
    """So many moments, the same ones for the same seed."""
    chance = Random(seed)
    return [random_moment(chance, **how) for turn in range(many)]


def row_serving(moment, there, done):
    """What is owed, as numbers, behind an evening at which those there served these pairs."""
    duties = dict(done)
    share = Fraction(sum(duties.values()), len(there))
    return [
        owes + share - duties.get(person, 0) if person in there else owes
        for (person, before), owes in zip(moment[1], numbers(moment))
    ]


def random_evening(chance, moment):
    """Some of two or more persons that sit, and duties for them."""
    people = list(owed(moment))
    there = chance.sample(people, chance.randint(2, len(people)))
    weight = moment[0]
    greatest = chance.choice((1, weight, weight))
    duties = [chance.choice((1, greatest, chance.randint(1, weight))) for turn in range(chance.randint(0, len(there)))]
    return tuple(there), tuple(duties)


def evenings_of(seed, many, **how):
    """So many moments, each with an evening: tuples (moment, there, duties)."""
    chance = Random(seed)
    found = []
    while len(found) < many:
        moment = random_moment(chance, **how)
        if len(owed(moment)) >= 2:
            found.append((moment, *random_evening(chance, moment)))
    return found


def no_names():
    """Things that are no names; the empty text is one of them."""
    others = [
        "Ann", "aNN", "ANN", "ann1", "1", "ann ", " ann", "a b", "a-b", "a_b", "-", "ann\n", "\n", "abcdefghi", "a" * 9,
        "a" * 60, "\u00e4", "ann\u00e9", "\uff41", "\u0430nn", "\u00df", "`", "{", "a.", b"ann", ("ann",), ["ann"],
        Flatterer(),
    ]
    return [thing for thing in strangers() if thing != "a"] + others


def no_persons():
    """Things that sit in no moment of these tests, where nobody is called stranger."""
    return no_names() + ["stranger"]


def no_weights():
    """Things that are no whole numbers from 1 on."""
    return strangers() + [0, -1, -(10 ** 40), "1", "12", (1, 1), (1, 2)]


def no_seat_numbers(many):
    """Things that are no tuple of unlike numbers of so many seats, two or more."""
    # The tuples among the strangers may be such a tuple.
    no_tuples = [thing for thing in strangers() if not isinstance(thing, tuple)] + [0, 1, -1, "0", "01"]
    lists = [[0], [0, 1], list(range(many)), range(many), {0: 1}, {0, 1}]
    doubled = [(0, 0), (1, 0, 1), (0, 1, 1)]
    items = strangers() + [many, many + 1, -1, -many, 10 ** 40, "0", "1", (0,), (0, 1)]
    return no_tuples + lists + doubled + [(item,) for item in items] + [(0, item) for item in items]


def parts_of(moment):
    """All that a moment is made of, to see that it is made of tuples, texts and ints alone."""
    return [moment[1]] + list(moment[1]) + [owes for person, owes in moment[1]]


def is_plain(moment):
    """Whether a moment is made of plain tuples, texts and ints, its parts in lowest terms."""
    weight, seats = moment
    kinds = [moment.__class__, weight.__class__] + [thing.__class__ for thing in parts_of(moment)]
    if kinds[:2] != [tuple, int] or set(kinds[2:]) != {tuple}:
        return False
    items = [item.__class__ for person, owes in seats for item in owes]
    if set(items) - {int} or {person.__class__ for person, owes in seats} - {str}:
        return False
    return all(told(number(owes)) == owes for person, owes in seats)


def is_truly_moment(moment):
    """Whether a moment as made of plain things is one, looked at without the program."""
    people = [person for person, owes in moment[1] if person]
    row = numbers(moment)
    if not is_plain(moment) or len(set(people)) != len(people):
        return False
    return sum(row, Fraction(0)) == 0 and first_fall(moment[0], row) is None
