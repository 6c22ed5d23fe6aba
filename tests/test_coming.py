"""Who comes, on which seat; who leaves [9]; and the row stays within [4]."""

import unittest
from fractions import Fraction

from tests.made import TINY, is_truly_moment, made, no_names, no_persons, numbers, owed, random_moments, told
from whoserves.coming import seat_for, with_person, without_person
from whoserves.errors import NoName, NoPerson, Taken
from whoserves.moments import is_moment, kitty

MOMENTS = random_moments(9, 400)


def nearest(moment):
    """The seat that 9 tells, by looking at each."""
    empty = [seat for seat, (person, owes) in enumerate(moment[1]) if person == ""]
    if not empty:
        return len(moment[1])
    least = min([abs(numbers(moment)[seat]) for seat in empty])
    return [seat for seat in empty if abs(numbers(moment)[seat]) == least][0]


class TestSeatFor(unittest.TestCase):
    def test_against_looking_at_each(self):
        for moment in MOMENTS:
            self.assertEqual(seat_for(moment), nearest(moment), moment)

    def test_no_empty_seat(self):
        self.assertEqual(seat_for((1, ())), 0)
        self.assertEqual(seat_for(made(1, "ann 0")), 1)
        self.assertEqual(seat_for(made(1, "ann 1/2, bob -1/2")), 2)

    def test_nearest_to_nought_on_either_side(self):
        self.assertEqual(seat_for(made(4, "- 2, - -1, ann -1")), 1)
        self.assertEqual(seat_for(made(4, "- -2, - 1, ann 1")), 1)
        self.assertEqual(seat_for(made(4, "- 1, - -2, ann 1")), 0)
        self.assertEqual(seat_for(made(4, "ann -1/2, - 1/2, - 0")), 2)
        self.assertEqual(seat_for(made(4, "- -3, - -2, ann 5")), 1)

    def test_a_taken_seat_is_nearer(self):
        self.assertEqual(seat_for(made(9, "ann 0, - 4, bob 0, - -3, cid -1")), 3)

    def test_equally_near_ones(self):
        self.assertEqual(seat_for(made(4, "ann 0, - 1, - -1")), 1)
        self.assertEqual(seat_for(made(4, "ann 0, - -1, - 1")), 1)
        self.assertEqual(seat_for(made(4, "- 2, - -1, - -1")), 1)
        self.assertEqual(seat_for(made(4, "- 0, - 0, - 0")), 0)

    def test_the_only_empty_seat_however_far(self):
        self.assertEqual(seat_for(made(1, "ann 1/2, - -1/2")), 1)
        self.assertEqual(seat_for(made(1, "ann -1/2, - 1/2")), 1)

    def test_seats_that_differ_far_behind(self):
        seats = (("", told(Fraction(1, 3))), ("", told(TINY - Fraction(1, 3))), ("ann", told(-TINY)))
        self.assertEqual(seat_for((1, seats)), 1)


class TestWithPerson(unittest.TestCase):
    def test_against_looking_at_each(self):
        for moment in MOMENTS:
            seats = list(moment[1])
            seat = nearest(moment)
            if seat == len(seats):
                seats.append(("newcomer", (0, 1)))
            else:
                seats[seat] = ("newcomer", seats[seat][1])
            found = with_person(moment, "newcomer")
            self.assertEqual(found, (moment[0], tuple(seats)))
            self.assertTrue(is_truly_moment(found))
            self.assertIs(is_moment(found), True)

    def test_the_first_one(self):
        self.assertEqual(with_person((7, ()), "ann"), (7, (("ann", (0, 1)),)))

    def test_a_new_seat_is_behind_all(self):
        self.assertEqual(with_person(made(1, "ann 1/2, bob -1/2"), "aa"), made(1, "ann 1/2, bob -1/2, aa 0"))

    def test_an_empty_seat_keeps_what_it_owes(self):
        self.assertEqual(with_person(made(3, "- 2, ann -1, - -1"), "bob"), made(3, "- 2, ann -1, bob -1"))

    def test_the_kitty_pays_what_the_seat_owes(self):
        for moment in MOMENTS:
            found = with_person(moment, "newcomer")
            paid = owed(found)["newcomer"]
            self.assertEqual(kitty(found), told(Fraction(*kitty(moment)) - paid))

    def test_names(self):
        for name in ("a", "z", "abcdefgh"):
            self.assertEqual(with_person((1, ()), name), (1, ((name, (0, 1)),)))

    def test_no_name_of_anything(self):
        for moment in ((1, ()), made(1, "ann 0, - 0")):
            for thing in no_names() + [0, 1, ("ann", (0, 1))]:
                with self.subTest(moment=moment, thing=thing):
                    self.assertRaises(NoName, with_person, moment, thing)

    def test_taken(self):
        moment = made(1, "ann 1/2, - 0, bob -1/2")
        for person in ("ann", "bob"):
            with self.assertRaises(Taken) as caught:
                with_person(moment, person)
            self.assertEqual(caught.exception.person, person)

    def test_the_empty_text_is_no_name_and_not_taken(self):
        self.assertRaises(NoName, with_person, made(1, "- 0, ann 0"), "")

    def test_what_is_handed_in_stays(self):
        moment = made(3, "- 2, ann -1, - -1")
        with_person(moment, "bob")
        without_person(moment, "ann")
        self.assertEqual(moment, made(3, "- 2, ann -1, - -1"))


class TestWithoutPerson(unittest.TestCase):
    def test_the_seat_is_empty_and_owes_what_it_owed(self):
        for moment in MOMENTS:
            for person in owed(moment):
                seats = tuple(("" if sitting == person else sitting, owes) for sitting, owes in moment[1])
                found = without_person(moment, person)
                self.assertEqual(found, (moment[0], seats))
                self.assertTrue(is_truly_moment(found))

    def test_some_as_they_are_written(self):
        moment = made(1, "ann 1/2, bob -1/2")
        self.assertEqual(without_person(moment, "ann"), made(1, "- 1/2, bob -1/2"))
        self.assertEqual(without_person(moment, "bob"), made(1, "ann 1/2, - -1/2"))
        self.assertEqual(without_person(made(1, "ann 0"), "ann"), made(1, "- 0"))

    def test_the_kitty_is_paid_what_the_seat_owes(self):
        for moment in MOMENTS:
            for person, number in owed(moment).items():
                found = without_person(moment, person)
                self.assertEqual(kitty(found), told(Fraction(*kitty(moment)) + number))

    def test_no_person_of_anything(self):
        for moment in ((1, ()), made(1, "- 0"), made(1, "ann 1/2, - -1/2")):
            for thing in no_persons() + ["an", "anna", 0]:
                with self.subTest(moment=moment, thing=thing):
                    self.assertRaises(NoPerson, without_person, moment, thing)

    def test_left_and_taken_again(self):
        moment = made(3, "ann 2, bob -1, cid -1")
        gone = without_person(without_person(moment, "ann"), "cid")
        self.assertEqual(gone, made(3, "- 2, bob -1, - -1"))
        again = with_person(gone, "ann")
        self.assertEqual(again, made(3, "- 2, bob -1, ann -1"))
        self.assertEqual(with_person(again, "cid"), made(3, "cid 2, bob -1, ann -1"))
        self.assertRaises(NoPerson, without_person, gone, "ann")


if __name__ == "__main__":
    unittest.main()
