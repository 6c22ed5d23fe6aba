"""Evenings: those there, in order, who serves what, and what is owed behind [10], [4]."""

import unittest
from fractions import Fraction
from itertools import permutations, product
from random import Random

from tests.made import (
    evenings_of, is_truly_moment, made, no_persons, numbers, owed, random_evening, row_serving, seats_by_name, told,
    widest,
)
from tests.things import strangers
from whoserves.errors import NoDuty, NoEvening
from whoserves.evenings import behind, in_order, served
from whoserves.moments import is_moment

EVENINGS = evenings_of(10, 500)
FIVE = made(7, "ann -2, - 1, bob 3, cid 0, dan -2")
NO_THERE = (
    (), ("ann",), ("ann", "ann"), ("ann", "bob", "ann"), ("bob", "bob", "cid"), ("ann", "stranger"), ("ann", ""),
    ("", ""), ("", "ann", "bob"), ["ann", "bob"], ["ann"], [], {"ann": 1, "bob": 2}, {"ann", "bob"}, "ann", "annbob",
    "ab", ("ann", "Bob"), ("ann", "bob "), ("annbob",), (("ann", "bob"),), ("ann", ["bob"]), ("ann", ("bob",)), (0, 2),
    ("ann", 2), ("ann", b"bob"), ("ann", True), ("ann", None), ("ann", {}), ("ann", {"bob"}), 2, b"ab",
)
NO_DUTIES = (
    (0,), (-1,), (8,), (10 ** 40,), (3, 0), (0, 3), (8, 3), (3, 8), (True,), (3, True), (False,), (1, 1, 1, 1),
    (7,) * 9, ("3",), (None,), ((3,),), ((3, 1),), ([3],), [], [3], [3, 2], {3: 1}, {3}, "", "3", 0, 3, range(1, 3),
    b"\x01", ("ann", 3), (("ann", 3),),
)


def order_by_picking(moment, there):
    """In order, by taking out the first of those who owe most again and again."""
    left = list(there)
    found = []
    while left:
        most = max([owed(moment)[person] for person in left])
        equal = [person for person in left if owed(moment)[person] == most]
        first = min(equal, key=lambda person: seats_by_name(moment)[person])
        found.append(first)
        left.remove(first)
    return tuple(found)


def serving(moment, there, duties):
    """Who serves what, by the words of 10."""
    ranked = sorted(duties, reverse=True)
    return tuple((person, duty) for person, duty in zip(order_by_picking(moment, there), ranked))


def row_behind(moment, there, duties):
    """What is owed behind, as numbers, by the words of 10."""
    return row_serving(moment, there, serving(moment, there, duties))


class TestInOrder(unittest.TestCase):
    def test_against_picking(self):
        for moment, there, duties in EVENINGS:
            found = in_order(moment, there)
            self.assertEqual(found, order_by_picking(moment, there))
            self.assertIs(found.__class__, tuple)

    def test_equal_ones_by_their_seats_whatever_the_order_handed_in(self):
        moment = made(7, "zoe 1, ann 0, mia 1, bob -2")
        for there in permutations(("ann", "bob", "mia", "zoe")):
            self.assertEqual(in_order(moment, there), ("zoe", "mia", "ann", "bob"))
        level = made(1, "zoe 0, - 0, ann 0, mia 0")
        for there in permutations(("ann", "mia", "zoe")):
            self.assertEqual(in_order(level, there), ("zoe", "ann", "mia"))
        self.assertEqual(in_order(level, ("mia", "ann")), ("ann", "mia"))

    def test_no_evening_of_anything(self):
        for there in strangers() + list(NO_THERE):
            with self.subTest(there=there):
                self.assertRaises(NoEvening, in_order, FIVE, there)

    def test_each_of_those_there_sits(self):
        for person in no_persons():
            with self.subTest(person=person):
                self.assertRaises(NoEvening, in_order, FIVE, ("ann", person))
                self.assertRaises(NoEvening, in_order, FIVE, (person, "ann", "bob"))

    def test_who_has_left_is_not_there(self):
        self.assertRaises(NoEvening, in_order, made(1, "ann 0, - 0, bob 0"), ("ann", "cid"))
        self.assertRaises(NoEvening, in_order, (1, ()), ("ann", "bob"))


class TestServed(unittest.TestCase):
    def test_against_the_words(self):
        for moment, there, duties in EVENINGS:
            found = served(moment, there, duties)
            self.assertEqual(found, serving(moment, there, duties))
            self.assertIs(found.__class__, tuple)
            for pair in found:
                self.assertIs(pair.__class__, tuple)

    def test_some_as_they_are_written(self):
        there = ("dan", "cid", "bob", "ann")
        self.assertEqual(served(FIVE, there, (2, 7)), (("bob", 7), ("cid", 2)))
        self.assertEqual(served(FIVE, there, (1, 5, 3, 5)), (("bob", 5), ("cid", 5), ("ann", 3), ("dan", 1)))
        self.assertEqual(served(FIVE, ("dan", "ann"), (4,)), (("ann", 4),))
        self.assertEqual(served(FIVE, there, ()), ())

    def test_no_evening_of_anything(self):
        for there in strangers() + list(NO_THERE):
            for duties in ((), (3,), (0,), None):
                with self.subTest(there=there, duties=duties):
                    self.assertRaises(NoEvening, served, FIVE, there, duties)
                    self.assertRaises(NoEvening, behind, FIVE, there, duties)

    def test_no_duty_of_anything(self):
        there = ("ann", "bob", "cid")
        for duties in [thing for thing in strangers() if thing not in ((), (1,), (1, 2, 3))] + list(NO_DUTIES):
            with self.subTest(duties=duties):
                self.assertRaises(NoDuty, served, FIVE, there, duties)
                self.assertRaises(NoDuty, behind, FIVE, there, duties)

    def test_a_duty_is_a_whole_number_from_1_to_the_weight(self):
        for thing in strangers() + ["1", 0, -1, 8, 10 ** 40, (1, 1)]:
            with self.subTest(thing=thing):
                self.assertRaises(NoDuty, served, FIVE, ("ann", "bob"), (thing,))
                self.assertRaises(NoDuty, behind, FIVE, ("ann", "bob"), (1, thing))
        for duty in range(1, 8):
            self.assertEqual(served(FIVE, ("ann", "bob"), (duty,)), (("bob", duty),))

    def test_as_many_duties_as_are_there_and_one_more(self):
        for there in (("ann", "bob"), ("ann", "bob", "dan"), ("ann", "bob", "cid", "dan")):
            self.assertEqual(len(served(FIVE, there, (2,) * len(there))), len(there))
            self.assertRaises(NoDuty, served, FIVE, there, (2,) * (len(there) + 1))
            self.assertRaises(NoDuty, behind, FIVE, there, (2,) * (len(there) + 1))

    def test_weight_1(self):
        moment = made(1, "ann 0, bob 0")
        self.assertEqual(served(moment, ("bob", "ann"), (1,)), (("ann", 1),))
        self.assertRaises(NoDuty, served, moment, ("ann", "bob"), (2,))


class TestBehind(unittest.TestCase):
    def test_against_the_words(self):
        for moment, there, duties in EVENINGS:
            found = behind(moment, there, duties)
            people = [person for person, owes in moment[1]]
            expected = tuple(zip(people, [told(one) for one in row_behind(moment, there, duties)]))
            self.assertEqual(found, (moment[0], expected))
            self.assertTrue(is_truly_moment(found))
            self.assertIs(is_moment(found), True)

    def test_some_as_they_are_written(self):
        level = made(7, "ann 0, bob 0, cid 0")
        self.assertEqual(behind(level, ("ann", "bob"), (7,)), made(7, "ann -7/2, bob 7/2, cid 0"))
        self.assertEqual(behind(level, ("cid", "bob", "ann"), (1, 4)), made(7, "ann -7/3, bob 2/3, cid 5/3"))
        self.assertEqual(behind(FIVE, ("ann", "cid"), (3, 5)), made(7, "ann -1, - 1, bob 3, cid -1, dan -2"))

    def test_no_duties_change_nothing(self):
        self.assertEqual(behind(FIVE, ("ann", "bob"), ()), FIVE)

    def test_equal_duties_for_all_change_nothing(self):
        self.assertEqual(behind(FIVE, ("ann", "bob", "cid", "dan"), (5, 5, 5, 5)), FIVE)

    def test_who_is_not_there_and_empty_seats_stay(self):
        for moment, there, duties in EVENINGS:
            for before, after in zip(moment[1], behind(moment, there, duties)[1]):
                if before[0] not in there:
                    self.assertEqual(after, before)

    def test_at_the_very_edge_nothing_is_refused(self):
        for weight, order in product((1, 4), permutations(range(4))):
            row = widest(weight, 4)
            moment = (weight, tuple(("abcd"[place], told(row[place])) for place in order))
            for there in (("a", "b"), ("a", "d"), ("c", "d"), ("d", "b", "a"), ("a", "b", "c", "d")):
                for many in range(len(there) + 1):
                    for duties in ((weight,) * many, (1,) * many, tuple(range(weight, 0, -1))[:many]):
                        self.assertTrue(is_truly_moment(behind(moment, there, duties)))

    def test_parts_of_many_figures(self):
        long = Fraction(10 ** 60 - 1, 2 * 10 ** 60 - 1)
        moment = (1, (("ann", told(long)), ("bob", told(-long))))
        self.assertEqual(behind(moment, ("bob", "ann"), (1,)),
                         (1, (("ann", told(long - Fraction(1, 2))), ("bob", told(Fraction(1, 2) - long)))))

    def test_many_evenings_behind_one_another(self):
        for seed, people in product(range(6), ("ab", "abc", "abcdefg", "abcdefghijklmnop")):
            chance = Random(seed)
            weight = chance.choice((1, 2, 5, 10 ** 29 + 7))
            moment = (weight, tuple((person, (0, 1)) for person in people))
            for turn in range(60):
                there, duties = random_evening(chance, moment)
                expected = [told(one) for one in row_behind(moment, there, duties)]
                moment = behind(moment, there, duties)
                self.assertEqual([owes for person, owes in moment[1]], expected)
                self.assertTrue(is_truly_moment(moment))

    def test_those_set_on_widening_come_to_the_most_and_no_further(self):
        # Evenings of two that owe alike, or nearly so, drive the row apart.
        moment = (1, tuple((person, (0, 1)) for person in "abcdef"))
        for turn in range(400):
            row = numbers(moment)
            pairs = [(abs(row[one] - row[other]), one, other) for one in range(6) for other in range(one)]
            gap, one, other = min(pairs)
            moment = behind(moment, ("abcdef"[one], "abcdef"[other]), (1,))
            self.assertTrue(is_truly_moment(moment))
        self.assertGreater(max(numbers(moment)), 1)

    def test_what_is_handed_in_stays(self):
        moment, there, duties = made(7, "ann -2, - 1, bob 3, cid 0, dan -2"), ("dan", "bob"), (1, 5)
        in_order(moment, there)
        served(moment, there, duties)
        behind(moment, there, duties)
        self.assertEqual((moment, there, duties), (FIVE, ("dan", "bob"), (1, 5)))


if __name__ == "__main__":
    unittest.main()
