"""A moment weighed, and two moments poured together [16]."""

import unittest
from fractions import Fraction

from tests.made import first_fall, is_truly_moment, made, no_weights, numbers, owed, random_moments, told, widest
from tests.test_joining import pairs_of_moments
from whoserves.errors import Beyond, NoWeight
from whoserves.moments import is_moment
from whoserves.pouring import poured, weighed

MOMENTS = random_moments(18, 150)
PAIRS = pairs_of_moments(19, 250, names="abcde")


def least_weight(moment):
    """The least weight by which the row of a moment is within, by halving."""
    low, high = 0, moment[0]
    while high - low > 1:
        middle = (low + high) // 2
        if first_fall(middle, numbers(moment)) is None:
            high = middle
        else:
            low = middle
    return high


class TestWeighed(unittest.TestCase):
    def test_the_same_weight(self):
        for moment in MOMENTS:
            self.assertEqual(weighed(moment, moment[0]), moment)

    def test_greater_ones(self):
        for moment in MOMENTS:
            for weight in (moment[0] + 1, moment[0] * 9, 10 ** 30 - 1):
                found = weighed(moment, weight)
                self.assertEqual(found, (weight, moment[1]))
                self.assertTrue(is_truly_moment(found))
                self.assertIs(is_moment(found), True)

    def test_a_lesser_one_just_within_and_one_less(self):
        refused = 0
        for moment in MOMENTS:
            weight = least_weight(moment)
            self.assertEqual(weighed(moment, weight), (weight, moment[1]))
            self.assertTrue(is_truly_moment(weighed(moment, weight)))
            if weight > 1:
                refused += 1
                with self.assertRaises(Beyond) as caught:
                    weighed(moment, weight - 1)
                fallen = first_fall(weight - 1, numbers(moment))
                self.assertEqual((caught.exception.many, caught.exception.seats), fallen)
                self.assertIs(caught.exception.seats.__class__, tuple)
        self.assertGreater(refused, 50)

    def test_some_as_they_are_written(self):
        moment = made(9, "ann -2, bob 1, - 1")
        self.assertEqual(weighed(moment, 2), made(2, "ann -2, bob 1, - 1"))
        with self.assertRaises(Beyond) as caught:
            weighed(moment, 1)
        self.assertEqual((caught.exception.many, caught.exception.seats), (2, (1, 2)))
        with self.assertRaises(Beyond) as caught:
            weighed(made(9, "ann -3, bob 1, - 2"), 2)
        self.assertEqual((caught.exception.many, caught.exception.seats), (2, (2, 1)))
        with self.assertRaises(Beyond) as caught:
            weighed(made(9, "ann 0, bob -4, - 4"), 3)
        self.assertEqual((caught.exception.many, caught.exception.seats), (1, (2,)))

    def test_a_moment_without_seats_or_with_one(self):
        self.assertEqual(weighed((9, ()), 1), (1, ()))
        self.assertEqual(weighed(made(9, "ann 0"), 1), made(1, "ann 0"))

    def test_no_weight_of_anything_ahead_of_beyond(self):
        for moment in ((1, ()), made(9, "ann 9/2, bob -9/2")):
            for thing in no_weights():
                with self.subTest(thing=thing):
                    self.assertRaises(NoWeight, weighed, moment, thing)

    def test_what_is_handed_in_stays(self):
        moment = made(9, "ann -2, bob 1, - 1")
        weighed(moment, 2)
        self.assertRaises(Beyond, weighed, moment, 1)
        poured(moment, moment)
        self.assertEqual(moment, made(9, "ann -2, bob 1, - 1"))


class TestPoured(unittest.TestCase):
    def test_against_the_words(self):
        shared_by = {0: 0, 1: 0, 2: 0}
        for one, other in PAIRS:
            in_one, in_other = owed(one), owed(other)
            seats = [
                (person, told(number + (in_other.get(person, 0) if person else 0)))
                for (person, owes), number in zip(one[1], numbers(one))
            ]
            seats += [(person, owes) for person, owes in other[1] if person not in in_one]
            found = poured(one, other)
            self.assertEqual(found, (one[0] + other[0], tuple(seats)))
            self.assertTrue(is_truly_moment(found))
            self.assertIs(is_moment(found), True)
            both = len([person for person in in_one if person in in_other])
            shared_by[min(both, 2)] += 1
        self.assertGreater(min(shared_by.values()), 30)

    def test_no_person_in_both(self):
        self.assertEqual(poured(made(1, "ann 1/2, bob -1/2"), made(2, "cid -1, dan 1")),
                         made(3, "ann 1/2, bob -1/2, cid -1, dan 1"))

    def test_some_persons_in_both(self):
        self.assertEqual(poured(made(1, "ann 1/2, bob -1/2"), made(2, "cid -1, ann 1")),
                         made(3, "ann 3/2, bob -1/2, cid -1"))

    def test_all_persons_in_both(self):
        self.assertEqual(poured(made(1, "ann 1/2, bob -1/2"), made(2, "bob 1/2, ann -1/2")), made(3, "ann 0, bob 0"))

    def test_a_moment_with_itself(self):
        self.assertEqual(poured(made(3, "ann 2, bob -2"), made(3, "ann 2, bob -2")), made(6, "ann 4, bob -4"))
        moment = made(3, "ann 2, - 1, bob -3")
        self.assertEqual(poured(moment, moment), made(6, "ann 4, - 1, bob -6, - 1"))

    def test_empty_seats_of_both_stay(self):
        self.assertEqual(poured(made(1, "- 1/2, - -1/2"), made(1, "- 1/2, - -1/2")),
                         made(2, "- 1/2, - -1/2, - 1/2, - -1/2"))
        self.assertEqual(poured(made(1, "- 1/2, ann -1/2"), made(1, "ann -1/2, - 1/2")),
                         made(2, "- 1/2, ann -1, - 1/2"))

    def test_a_moment_without_seats(self):
        moment = made(2, "ann 1, - -1")
        self.assertEqual(poured(moment, (5, ())), made(7, "ann 1, - -1"))
        self.assertEqual(poured((5, ()), moment), made(7, "ann 1, - -1"))
        self.assertEqual(poured((1, ()), (1, ())), (2, ()))

    def test_the_widest_ones(self):
        for first, second in (("abcd", "abcd"), ("abcd", "cdef"), ("abcd", "dcba"), ("abcd", "efgh"), ("abcd", "ad")):
            one = (3, tuple(zip(first, [told(each) for each in widest(3, len(first))])))
            other = (4, tuple(zip(second, [told(each) for each in widest(4, len(second))])))
            self.assertTrue(is_truly_moment(poured(one, other)))
            self.assertTrue(is_truly_moment(poured(other, one)))

    def test_together_is_what_both_tell(self):
        for one, other in PAIRS:
            found = poured(one, other)
            for person, owes in owed(found).items():
                self.assertEqual(owes, owed(one).get(person, Fraction(0)) + owed(other).get(person, Fraction(0)))


if __name__ == "__main__":
    unittest.main()
