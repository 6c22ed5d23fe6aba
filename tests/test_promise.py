"""The promise [4]: whatever comes, in whatever order, the row behind it is within the weight."""

import unittest
from fractions import Fraction
from itertools import combinations
from random import Random

from tests.made import is_truly_moment, number, numbers, owed, random_evening
from whoserves.coming import with_person, without_person
from whoserves.evenings import behind
from whoserves.moments import is_moment, kitty, moment_of

NAMES = ("ann", "bob", "cid", "dan", "eva", "fay", "gus", "hal", "ida", "jon")


def coming(chance, moment):
    """The moment behind someone's coming, or the same."""
    away = [name for name in NAMES if name not in owed(moment)]
    return with_person(moment, chance.choice(away)) if away else moment


def leaving(chance, moment):
    """The moment behind someone's leaving, or the same."""
    return without_person(moment, chance.choice(list(owed(moment)))) if owed(moment) else moment


def evening(chance, moment):
    """The moment behind an evening served by the rule, or the same."""
    return behind(moment, *random_evening(chance, moment)) if len(owed(moment)) >= 2 else moment


DEEDS = (coming, coming, leaving, evening, evening, evening, evening)


def history(seed, deeds, many):
    """The moments of so many deeds, one behind the other."""
    chance = Random(seed)
    found = [moment_of(chance.choice((1, 2, 3, 8, 10 ** 29 + 7)))]
    for turn in range(many):
        found.append(chance.choice(deeds)(chance, found[-1]))
    return found


class TestPromise(unittest.TestCase):
    def test_each_moment_is_one(self):
        for seed in range(40):
            for moment in history(seed, DEEDS, 60):
                self.assertTrue(is_truly_moment(moment))
                self.assertIs(is_moment(moment), True)

    def test_any_seats_owe_and_are_owed_the_most_at_the_most(self):
        for seed in range(8):
            weight, seats = history(seed, DEEDS, 50)[-1]
            row = numbers((weight, seats))
            for many in range(len(row) + 1):
                most = Fraction(weight * many * (len(row) - many), 2)
                for chosen in combinations(row, many):
                    self.assertLessEqual(abs(sum(chosen, Fraction(0))), most)

    def test_nobody_and_no_kitty_owes_more(self):
        for seed in range(40):
            for moment in history(seed, DEEDS, 60):
                weight, seats = moment
                empty = len(seats) - len(owed(moment))
                for owes in owed(moment).values():
                    self.assertLessEqual(abs(owes), Fraction(weight * (len(seats) - 1), 2))
                self.assertLessEqual(abs(number(kitty(moment))), Fraction(weight * empty * (len(seats) - empty), 2))


if __name__ == "__main__":
    unittest.main()
