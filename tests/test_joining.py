"""Two moments joined [15], and one parted by seats [16]."""

import unittest
from fractions import Fraction
from itertools import combinations, permutations, product
from random import Random

from tests.made import (
    TINY, first_fall, is_truly_moment, made, no_seat_numbers, numbers, owed, random_moment, random_moments, random_row,
    told,
)
from whoserves.errors import Beyond, NoSeat, Taken, Unbalanced, Unlike
from whoserves.joining import joined, parted
from whoserves.moments import is_moment

PARTABLE = random_moments(16, 120, most_seats=6)


def pairs_of_moments(seed, many, *, names="abcdefghij"):
    """Pairs of moments of any weights, with persons of few letters, so that some sit in both."""
    chance = Random(seed)
    found = []
    for turn in range(many):
        one = random_moment(chance, most_seats=4, names=names)
        other = random_moment(chance, most_seats=4, names=names)
        found.append((one, other))
        seats = other[1]
        alike = random_row(chance, one[0], len(seats))
        found.append((one, (one[0], tuple((person, told(owes)) for (person, before), owes in zip(seats, alike)))))
    return found


class TestJoined(unittest.TestCase):
    def test_against_the_words(self):
        done = unlike = taken = 0
        for one, other in pairs_of_moments(15, 400):
            both = [person for person in owed(one) if person in owed(other)]
            if one[0] != other[0]:
                unlike += 1
                self.assertRaises(Unlike, joined, one, other)
            elif both:
                taken += 1
                with self.assertRaises(Taken) as caught:
                    joined(one, other)
                self.assertEqual(caught.exception.person, both[0])
            else:
                done += 1
                found = joined(one, other)
                self.assertEqual(found, (one[0], one[1] + other[1]))
                self.assertTrue(is_truly_moment(found))
                self.assertIs(is_moment(found), True)
        self.assertGreater(min(done, unlike, taken), 50)

    def test_some_as_they_are_written(self):
        one, other = made(2, "bob 1, - -1"), made(2, "- 1/2, ann -1/2")
        self.assertEqual(joined(one, other), made(2, "bob 1, - -1, - 1/2, ann -1/2"))
        self.assertEqual(joined(other, one), made(2, "- 1/2, ann -1/2, bob 1, - -1"))

    def test_a_moment_without_seats_on_either_side(self):
        moment = made(2, "bob 1, - -1")
        self.assertEqual(joined(moment, (2, ())), moment)
        self.assertEqual(joined((2, ()), moment), moment)
        self.assertEqual(joined((2, ()), (2, ())), (2, ()))
        self.assertRaises(Unlike, joined, (1, ()), moment)
        self.assertRaises(Unlike, joined, moment, (3, ()))

    def test_unlike_goes_ahead_of_taken(self):
        self.assertRaises(Unlike, joined, made(1, "ann 0"), made(2, "ann 0"))

    def test_taken_is_the_first_of_the_one_by_seats(self):
        one, other = made(1, "zoe 0, - 0, mia 0, ann 0, bob 0"), made(1, "- 0, ann 0, cid 0, mia 0")
        for first, second, person in ((one, other, "mia"), (other, one, "ann")):
            with self.assertRaises(Taken) as caught:
                joined(first, second)
            self.assertEqual(caught.exception.person, person)

    def test_empty_seats_are_no_persons_in_both(self):
        self.assertEqual(joined(made(1, "- 0"), made(1, "- 0, - 0")), made(1, "- 0, - 0, - 0"))

    def test_the_widest_ones(self):
        one, other = made(3, "ann 3, bob 0, cid -3"), made(3, "dan -3/2, eva 3/2")
        self.assertTrue(is_truly_moment(joined(one, other)))


class TestParted(unittest.TestCase):
    def test_against_the_words(self):
        counts = {"done": 0, "unbalanced": 0, "these": 0, "others": 0}
        for moment in PARTABLE + [self.balanced(seed) for seed in range(60)]:
            many = len(moment[1])
            for size in range(many + 1):
                for seats in combinations(range(many), size):
                    counts[self.check(moment, seats)] += 1
        self.assertGreater(min(counts.values()), 50, counts)

    def balanced(self, seed):
        """A moment many of whose seats come to nought together: two of fewer seats side by side."""
        chance = Random(seed)
        weight = chance.choice((1, 2, 6))
        row = []
        for turn in range(2):
            half = random_row(chance, weight * chance.choice((1, 2)), 3)
            row += half
        moment = (weight * 2, tuple(zip("abcdef", [told(one) for one in row])))
        assert is_truly_moment(moment)
        return (weight, moment[1]) if first_fall(weight, row) is None else moment

    def check(self, moment, seats):
        """What parting by these seats, rising, comes to, and that it does."""
        weight, row = moment[0], numbers(moment)
        others = tuple(seat for seat in range(len(row)) if seat not in seats)
        together = sum([row[seat] for seat in seats], Fraction(0))
        if together != 0:
            with self.assertRaises(Unbalanced) as caught:
                parted(moment, seats)
            self.assertEqual(caught.exception.owed, told(together))
            return "unbalanced"
        for chosen, name in ((seats, "these"), (others, "others")):
            fallen = first_fall(weight, [row[seat] for seat in chosen])
            if fallen is not None:
                with self.assertRaises(Beyond) as caught:
                    parted(moment, seats)
                self.assertEqual(caught.exception.many, fallen[0])
                self.assertEqual(caught.exception.seats, tuple(chosen[place] for place in fallen[1]))
                return name
        halves = tuple((weight, tuple(moment[1][seat] for seat in chosen)) for chosen in (seats, others))
        self.assertEqual(parted(moment, seats), halves)
        self.assertTrue(is_truly_moment(halves[0]) and is_truly_moment(halves[1]))
        return "done"

    def test_seats_in_any_order(self):
        moment = made(2, "ann 1, bob 0, - -1, cid 1/2, dan -1/2")
        for seats in permutations((0, 1, 2)):
            self.assertEqual(parted(moment, seats), (made(2, "ann 1, bob 0, - -1"), made(2, "cid 1/2, dan -1/2")))
        for seats in permutations((3, 4)):
            self.assertEqual(parted(moment, seats), (made(2, "cid 1/2, dan -1/2"), made(2, "ann 1, bob 0, - -1")))

    def test_none_and_all(self):
        for moment in PARTABLE[:40] + [(3, ())]:
            many = len(moment[1])
            self.assertEqual(parted(moment, ()), ((moment[0], ()), moment))
            self.assertEqual(parted(moment, tuple(range(many))), (moment, (moment[0], ())))
            self.assertEqual(parted(moment, tuple(range(many))[::-1]), (moment, (moment[0], ())))

    def test_a_pair_is_told(self):
        found = parted(made(1, "ann 0, bob 0"), (1,))
        self.assertEqual(found, (made(1, "bob 0"), made(1, "ann 0")))
        self.assertIs(found.__class__, tuple)

    def test_no_seat_of_anything(self):
        for moment, seats in product((made(1, "ann 0, - 0, bob 0"), made(9, "a 4, b -4, c 1")), no_seat_numbers(3)):
            with self.subTest(seats=seats):
                self.assertRaises(NoSeat, parted, moment, seats)
        for seats in ((0,), (-1,), [], None, (False,)):
            self.assertRaises(NoSeat, parted, (1, ()), seats)

    def test_no_seat_goes_ahead_of_unbalanced(self):
        moment = made(3, "ann 1, bob -1, - 0")
        self.assertRaises(Unbalanced, parted, moment, (0,))
        self.assertRaises(NoSeat, parted, moment, (0, 0))
        self.assertRaises(NoSeat, parted, moment, (0, 3))
        self.assertRaises(NoSeat, parted, moment, [0])

    def test_unbalanced_tells_what_is_owed(self):
        moment = made(3, "ann 4/3, bob -1, - -1/3")
        for seats, owes in (((0,), (4, 3)), ((1,), (-1, 1)), ((2, 1), (-4, 3)), ((0, 2), (1, 1))):
            with self.assertRaises(Unbalanced) as caught:
                parted(moment, seats)
            self.assertEqual(caught.exception.owed, owes)

    def test_unbalanced_goes_ahead_of_beyond(self):
        moment = (1, tuple(zip("abcd", [told(one) for one in (Fraction(3, 2), TINY - Fraction(3, 2), -TINY, 0)])))
        self.assertTrue(is_truly_moment(moment))
        with self.assertRaises(Unbalanced) as caught:
            parted(moment, (0, 1))
        self.assertEqual(caught.exception.owed, told(TINY))

    def test_beyond_for_those_then_for_the_others(self):
        moment = made(1, "ann 0, bob 1, - -1, cid 0")
        for seats in ((2, 1), (1, 2), (0, 3), (3, 0)):
            with self.assertRaises(Beyond) as caught:
                parted(moment, seats)
            self.assertEqual((caught.exception.many, caught.exception.seats), (1, (1,)))
        both = made(1, "ann -1, bob 1, - 3/4, cid -3/4")
        for seats, seat in (((1, 0), 1), ((2, 3), 2)):
            with self.assertRaises(Beyond) as caught:
                parted(both, seats)
            self.assertEqual((caught.exception.many, caught.exception.seats), (1, (seat,)))

    def test_beyonds_seats_greatest_first_by_their_numbers(self):
        moment = made(1, "eva 0, ann 3/4, fay 0, bob -7/4, cid 1")
        with self.assertRaises(Beyond) as caught:
            parted(moment, (4, 3, 1))
        self.assertEqual((caught.exception.many, caught.exception.seats), (2, (4, 1)))
        with self.assertRaises(Beyond) as caught:
            parted(moment, (2, 0))
        self.assertEqual((caught.exception.many, caught.exception.seats), (2, (4, 1)))
        alike = made(1, "eva 0, ann 3/4, fay 0, bob -3/2, cid 3/4")
        with self.assertRaises(Beyond) as caught:
            parted(alike, (4, 1, 3))
        self.assertEqual((caught.exception.many, caught.exception.seats), (2, (1, 4)))

    def test_joined_again(self):
        for one, other in pairs_of_moments(17, 300):
            if one[0] == other[0] and not [person for person in owed(one) if person in owed(other)]:
                whole = joined(one, other)
                many = len(one[1])
                self.assertEqual(parted(whole, tuple(range(many))), (one, other))
                self.assertEqual(parted(whole, tuple(range(many, len(whole[1])))), (other, one))

    def test_what_is_handed_in_stays(self):
        moment, seats = made(2, "ann 1, bob 0, - -1"), (2, 0)
        parted(moment, seats)
        joined(moment, made(2, "cid 0"))
        self.assertEqual((moment, seats), (made(2, "ann 1, bob 0, - -1"), (2, 0)))


if __name__ == "__main__":
    unittest.main()
