"""The promise [4]: whatever comes, in whatever order, the row behind it is within the weight."""

import unittest
from fractions import Fraction
from itertools import combinations
from random import Random

from tests.made import is_truly_moment, made, number, numbers, owed, random_evening, told
from whoserves.coming import with_person, without_person
from whoserves.errors import Beyond, Unbalanced
from whoserves.evenings import behind
from whoserves.gifts import levelled, levelling, with_gift
from whoserves.joining import joined, parted
from whoserves.moments import is_moment, kitty, moment_of
from whoserves.offers import offered
from whoserves.pouring import poured, weighed

NAMES = ("ann", "bob", "cid", "dan", "eva", "fay", "gus", "hal", "ida", "jon")


def coming(chance, moment):
    """The moment behind someone's coming, or the same."""
    away = [name for name in NAMES if name not in owed(moment)]
    return with_person(moment, chance.choice(away)) if away else moment


def leaving(chance, moment):
    """The moment behind someone's leaving, or the same."""
    return without_person(moment, chance.choice(list(owed(moment)))) if owed(moment) else moment


def evening(chance, moment):
    """The moment behind an evening served by the rule, or the same."""
    return behind(moment, *random_evening(chance, moment)) if len(owed(moment)) >= 2 else moment


def offer(chance, moment):
    """The moment behind an offer, or the same where it is refused."""
    if len(owed(moment)) < 2:
        return moment
    there, duties = random_evening(chance, moment)
    try:
        return offered(moment, there, tuple(zip(chance.sample(there, len(duties)), duties)))
    except Beyond:
        return moment


def gift(chance, moment):
    """The moment behind a gift of all of a difference or of a part of it, or the same."""
    people = owed(moment)
    pairs = [(one, other) for one in people for other in people if people[one] > people[other]]
    if not pairs:
        return moment
    one, other = chance.choice(pairs)
    share = chance.choice((Fraction(1), Fraction(1, 2), Fraction(chance.randint(1, 60), 60)))
    return with_gift(moment, one, other, told((people[one] - people[other]) * share))


def level(chance, moment):
    """The moment levelled."""
    return levelled(moment)


def join(chance, moment):
    """The moment joined with a small one of the same weight, whose persons have names of their own, or the same."""
    weight, seats = moment
    if len(seats) > 10 or "xeno" in owed(moment):
        return moment
    small = made(weight, f"- {weight}, xeno {-weight}, - 0")
    return chance.choice((joined(moment, small), joined(small, moment)))


def weigh(chance, moment):
    """The moment with another weight, or the same where it is refused."""
    try:
        return weighed(moment, chance.randint(1, moment[0] + 2))
    except Beyond:
        return moment


def parting(chance, moment):
    """One of both moments parted by some seats, or the same where it is refused."""
    seats = range(len(moment[1]))
    try:
        return chance.choice(parted(moment, tuple(chance.sample(seats, chance.randint(0, len(seats))))))
    except (Beyond, Unbalanced):
        return moment


def pour(chance, moment):
    """The moment poured together with another one of the same and other persons, or the same."""
    if len(moment[1]) > 10 or moment[0] > 10 ** 20:
        return moment
    other = made(2, "ann 3, bob 0, - -1, eva -2")
    return chance.choice((poured(moment, other), poured(other, moment)))


DEEDS = (coming, coming, leaving, evening, evening, evening, evening)
ALL_DEEDS = DEEDS + (offer, offer, gift, level, join, weigh, parting, pour)


def history(seed, deeds, many):
    """The moments of so many deeds, one behind the other."""
    chance = Random(seed)
    found = [moment_of(chance.choice((1, 2, 3, 8, 10 ** 29 + 7)))]
    for turn in range(many):
        found.append(chance.choice(deeds)(chance, found[-1]))
    return found


class TestPromise(unittest.TestCase):
    def test_each_moment_is_one(self):
        for seed in range(40):
            for moment in history(seed, DEEDS, 60) + history(seed, ALL_DEEDS, 60):
                self.assertTrue(is_truly_moment(moment))
                self.assertIs(is_moment(moment), True)

    def test_any_seats_owe_and_are_owed_the_most_at_the_most(self):
        for seed in range(8):
            weight, seats = max(history(seed, ALL_DEEDS, 40), key=lambda moment: len(moment[1]))
            row = numbers((weight, seats))
            for many in range(len(row) + 1):
                most = Fraction(weight * many * (len(row) - many), 2)
                for chosen in combinations(row, many):
                    self.assertLessEqual(abs(sum(chosen, Fraction(0))), most)

    def test_nobody_and_no_kitty_owes_more(self):
        for seed in range(40):
            for moment in history(seed, ALL_DEEDS, 60):
                weight, seats = moment
                empty = len(seats) - len(owed(moment))
                for owes in owed(moment).values():
                    self.assertLessEqual(abs(owes), Fraction(weight * (len(seats) - 1), 2))
                self.assertLessEqual(abs(number(kitty(moment))), Fraction(weight * empty * (len(seats) - empty), 2))

    def test_persons_are_levelled_by_fewer_gifts_than_they_are(self):
        for seed in range(40):
            for moment in history(seed, ALL_DEEDS, 60):
                if owed(moment):
                    self.assertLess(len(levelling(moment)), len(owed(moment)))


if __name__ == "__main__":
    unittest.main()
