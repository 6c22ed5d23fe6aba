"""Moments: what is one, who sits, what is owed [8]."""

import unittest
from fractions import Fraction
from itertools import permutations

from tests.made import (
    TINY, is_truly_moment, made, no_names, no_persons, no_weights, number, owed, random_moments, told, widest,
)
from tests.things import strangers
from whoserves.errors import NoPerson, NoWeight
from whoserves.moments import empty_seats, is_moment, kitty, moment_of, owes, owing, persons, seat_of

FOUR = made(3, "ann 1/2, - -2, bob 2, - -1/2")
MOMENTS = random_moments(8, 300)


class TestIsMoment(unittest.TestCase):
    def test_moments(self):
        for moment in MOMENTS:
            self.assertTrue(is_truly_moment(moment))
            self.assertIs(is_moment(moment), True, moment)

    def test_some_as_they_are_written(self):
        self.assertIs(is_moment((1, ())), True)
        self.assertIs(is_moment((1, (("a", (0, 1)),))), True)
        self.assertIs(is_moment((1, (("", (0, 1)),))), True)
        self.assertIs(is_moment((1, (("ann", (1, 2)), ("", (-1, 2))))), True)
        self.assertIs(is_moment((3, (("abcdefgh", (3, 2)), ("z", (-3, 2))))), True)

    def test_of_anything(self):
        for thing in strangers() + [0, 1, "weight 1\n", (1, 2), (1, 1)]:
            with self.subTest(thing=thing):
                self.assertIs(is_moment(thing), False)

    def test_no_pair(self):
        for thing in ((1,), (1, (), ()), ((),), [1, ()], ((), 1), {1: ()}, ((1, ()),)):
            self.assertIs(is_moment(thing), False, thing)

    def test_the_weight(self):
        for weight in (1, 2, 10 ** 29, 10 ** 30 - 1):
            self.assertIs(is_moment((weight, ())), True)
        for weight in no_weights():
            with self.subTest(weight=weight):
                self.assertIs(is_moment((weight, ())), False)
                self.assertIs(is_moment((weight, (("ann", (0, 1)),))), False)

    def test_seats_are_a_tuple(self):
        for seats in strangers() + [[("ann", (0, 1))], {"ann": (0, 1)}, "ann", 0]:
            if seats != ():
                with self.subTest(seats=seats):
                    self.assertIs(is_moment((1, seats)), False)

    def test_a_seat_is_a_pair(self):
        good = ("bob", (0, 1))
        for seat in strangers() + [["ann", (0, 1)], ("ann",), ("ann", (0, 1), 1), ("ann", 0, 1), ((0, 1), "ann"), "an"]:
            with self.subTest(seat=seat):
                self.assertIs(is_moment((1, (seat,))), False)
                self.assertIs(is_moment((1, (good, seat))), False)

    def test_the_names(self):
        for name in ("a", "z", "az", "abcdefgh", "zzzzzzzz"):
            self.assertIs(is_moment((1, ((name, (0, 1)),))), True)
        for name in no_names():
            if not (isinstance(name, str) and name == ""):
                with self.subTest(name=name):
                    self.assertIs(is_moment((1, ((name, (0, 1)),))), False)

    def test_no_two_persons_are_alike(self):
        self.assertIs(is_moment(made(1, "ann 0, bob 0, cid 0")), True)
        self.assertIs(is_moment(made(1, "ann 0, ann 0")), False)
        self.assertIs(is_moment(made(1, "ann 1/2, bob 0, ann -1/2")), False)

    def test_several_empty_seats(self):
        self.assertIs(is_moment(made(1, "- 0, - 0")), True)
        self.assertIs(is_moment(made(1, "- 1/2, ann 0, - -1/2, - 0")), True)

    def test_what_is_owed_is_a_part(self):
        no_parts = strangers() + [
            0, 1, "0", (0, 2), (2, 2), (0, -1), (0, 0), (1, 0), (0, -2), (False, 1), (0, True), [0, 1], (0, 1, 1), (0,),
        ]
        for owes_it in no_parts:
            with self.subTest(owes=owes_it):
                self.assertIs(is_moment((1, (("ann", owes_it),))), False)
                self.assertIs(is_moment((9, (("bob", (0, 1)), ("", owes_it)))), False)

    def test_parts_not_in_lowest_terms(self):
        self.assertIs(is_moment((4, (("ann", (1, 2)), ("bob", (-1, 2))))), True)
        self.assertIs(is_moment((4, (("ann", (2, 4)), ("bob", (-2, 4))))), False)
        self.assertIs(is_moment((4, (("ann", (1, 2)), ("bob", (1, -2))))), False)
        self.assertIs(is_moment((4, (("ann", (1, 1)), ("bob", (-2, 2))))), False)

    def test_all_together_owe_nought(self):
        self.assertIs(is_moment(made(9, "ann 1/2, bob -1/2, cid 0")), True)
        for text in ("ann 1/2, bob -1/2, cid 1/9", "ann 1/2, bob -2/3", "ann 1", "ann -1", "- 1", "ann -1, - 0"):
            self.assertIs(is_moment(made(9, text)), False, text)

    def test_just_within_and_just_beyond_for_each_k(self):
        for weight in (1, 2, 7, 10 ** 29 + 7):
            for seats in range(2, 8):
                for many in range(1, seats):
                    # The k greatest owe just the most, each of them alike, and so do the others.
                    above = Fraction(weight * (seats - many), 2)
                    below = -Fraction(weight * many, 2)
                    row = [above] * many + [below] * (seats - many)
                    with self.subTest(weight=weight, seats=seats, many=many):
                        self.assertIs(is_moment((weight, self.seats_of(row))), True)
                        row[0] += TINY
                        row[-1] -= TINY
                        self.assertIs(is_moment((weight, self.seats_of(row))), False)

    def test_the_widest_row_in_any_order(self):
        for row in permutations(widest(3, 4)):
            self.assertIs(is_moment((3, self.seats_of(row))), True)
            self.assertIs(is_moment((2, self.seats_of(row))), False)

    def test_empty_seats_count_as_seats(self):
        self.assertIs(is_moment(made(1, "ann 1, - -1")), False)
        self.assertIs(is_moment(made(1, "ann 1, - -1, - 0")), True)

    def test_parts_of_many_figures(self):
        long = Fraction(10 ** 60 - 1, 2 * 10 ** 60 - 1)
        self.assertIs(is_moment((1, self.seats_of([long, -long]))), True)
        self.assertIs(is_moment((1, self.seats_of([long + TINY, -long]))), False)

    def test_sixty_seats(self):
        names = [first + second for first in "abcdefgh" for second in "abcdefgh"][:60]
        for weight in (1, 10 ** 29):
            seats = tuple(zip(names, [told(one) for one in widest(weight, 60)]))
            self.assertIs(is_moment((weight, seats)), True)

    def seats_of(self, row):
        """Seats of unlike persons that owe these numbers."""
        return tuple(zip("abcdefghij", [told(one) for one in row]))


class TestMomentOf(unittest.TestCase):
    def test_it_has_no_seats(self):
        for weight in (1, 2, 77, 10 ** 30 - 1):
            self.assertEqual(moment_of(weight), (weight, ()))
            self.assertTrue(is_truly_moment((1, ())) and is_moment(moment_of(weight)))

    def test_no_weight_of_anything(self):
        for thing in no_weights():
            with self.subTest(thing=thing):
                self.assertRaises(NoWeight, moment_of, thing)


class TestTold(unittest.TestCase):
    def test_owing(self):
        self.assertEqual(owing(FOUR), ((1, 2), (-2, 1), (2, 1), (-1, 2)))
        self.assertEqual(owing((1, ())), ())
        for moment in MOMENTS:
            self.assertEqual(owing(moment), tuple(owes_it for person, owes_it in moment[1]))
            self.assertIs(owing(moment).__class__, tuple)

    def test_persons(self):
        self.assertEqual(persons(FOUR), ["ann", "bob"])
        self.assertEqual(persons(made(1, "zoe 0, - 0, ann 0, - 0, mia 0")), ["zoe", "ann", "mia"])
        self.assertEqual(persons(made(1, "- 0")), [])
        self.assertEqual(persons((1, ())), [])

    def test_empty_seats(self):
        self.assertEqual(empty_seats(FOUR), [1, 3])
        self.assertEqual(empty_seats(made(1, "- 0, - 0")), [0, 1])
        self.assertEqual(empty_seats(made(1, "ann 0")), [])
        self.assertEqual(empty_seats((1, ())), [])

    def test_kitty(self):
        self.assertEqual(kitty(FOUR), (-5, 2))
        self.assertEqual(kitty(made(1, "- 1/3, ann 1/6, - -1/2")), (-1, 6))
        self.assertEqual(kitty(made(1, "- 1/2, - -1/2")), (0, 1))
        self.assertEqual(kitty(made(1, "ann 1/2, bob -1/2")), (0, 1))
        self.assertEqual(kitty((1, ())), (0, 1))
        for moment in MOMENTS:
            expected = sum([number(owes_it) for person, owes_it in moment[1] if person == ""], Fraction(0))
            self.assertEqual(kitty(moment), told(expected))

    def test_seat_of_and_owes(self):
        self.assertEqual((seat_of(FOUR, "ann"), owes(FOUR, "ann")), (0, (1, 2)))
        self.assertEqual((seat_of(FOUR, "bob"), owes(FOUR, "bob")), (2, (2, 1)))
        for moment in MOMENTS:
            self.assertEqual(len(persons(moment)), len(owed(moment)))
            for seat, (person, owes_it) in enumerate(moment[1]):
                if person:
                    self.assertEqual(seat_of(moment, person), seat)
                    self.assertEqual(owes(moment, person), owes_it)
                    self.assertIn(person, persons(moment))
                else:
                    self.assertIn(seat, empty_seats(moment))

    def test_no_person_of_anything(self):
        for moment in (FOUR, (1, ()), made(1, "- 0")):
            for thing in no_persons() + ["a", "an", "anna", 0, 1, (0, 1)]:
                with self.subTest(moment=moment, thing=thing):
                    self.assertRaises(NoPerson, seat_of, moment, thing)
                    self.assertRaises(NoPerson, owes, moment, thing)

    def test_lists_are_the_askers_own(self):
        for tell in (persons, empty_seats):
            for moment in (FOUR, (1, ())):
                found = tell(moment)
                kept = list(found)
                self.assertIs(found.__class__, list)
                found.append("x")
                found.insert(0, 7)
                self.assertEqual(tell(moment), kept)

    def test_what_is_handed_in_stays(self):
        moment = made(3, "ann 1/2, - -2, bob 2, - -1/2")
        for tell in (is_moment, owing, persons, empty_seats, kitty):
            tell(moment)
        self.assertEqual(moment, FOUR)


if __name__ == "__main__":
    unittest.main()
