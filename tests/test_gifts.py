"""Gifts [13], levelled persons and the gifts that level [14]; gifts never widen anything [4]."""

import unittest
from fractions import Fraction
from itertools import permutations, product

from tests.made import TINY, is_truly_moment, made, no_persons, number, numbers, owed, random_moments, told
from tests.things import strangers
from whoserves.errors import NoGift, NoPerson
from whoserves.gifts import levelled, levelling, with_gift
from whoserves.moments import is_moment

MOMENTS = random_moments(13, 200, most_seats=6)
THREE = made(7, "ann 3, - -5, bob 1, cid 1")


def greatest_sums(moment):
    """What the k seats that owe most owe together, for each k."""
    row = sorted(numbers(moment), reverse=True)
    return [sum(row[:many], Fraction(0)) for many in range(len(row) + 1)]


def gifts_by_words(moment):
    """The gifts that level, by the words of 14."""
    people = owed(moment)
    gifts = []
    while len(set(people.values())) > 1:
        average = sum(people.values()) / len(people)
        one = [person for person in people if people[person] == max(people.values())][0]
        other = [person for person in people if people[person] == min(people.values())][0]
        given = min(people[one] - average, average - people[other])
        gifts.append((one, other, told(given)))
        people[one] -= given
        people[other] += given
    return gifts


class TestWithGift(unittest.TestCase):
    def test_all_of_the_difference_and_less_and_more(self):
        for moment in MOMENTS:
            people = owed(moment)
            for one, other in permutations(people, 2):
                gap = people[one] - people[other]
                for share in (Fraction(1), Fraction(1, 2), Fraction(1, 60), 1 - TINY, TINY):
                    if gap > 0:
                        self.check_given(moment, one, other, gap * share)
                    else:
                        self.assertRaises(NoGift, with_gift, moment, one, other, told(max(-gap, 1) * share))
                for too_much in (gap + TINY, gap + 1, abs(gap) * 2 + 1):
                    self.assertRaises(NoGift, with_gift, moment, one, other, told(too_much))

    def check_given(self, moment, one, other, given):
        """The one owes so much less, the other so much more, nothing else is changed, and nothing widened."""
        found = with_gift(moment, one, other, told(given))
        more = {one: -given, other: given}
        seats = tuple((person, told(number(owes) + more.get(person, 0))) for person, owes in moment[1])
        self.assertEqual(found, (moment[0], seats))
        self.assertTrue(is_truly_moment(found))
        for before, after in zip(greatest_sums(moment), greatest_sums(found)):
            self.assertLessEqual(after, before)

    def test_some_as_they_are_written(self):
        self.assertEqual(with_gift(THREE, "ann", "bob", (1, 2)), made(7, "ann 5/2, - -5, bob 3/2, cid 1"))
        self.assertEqual(with_gift(THREE, "ann", "cid", (2, 1)), made(7, "ann 1, - -5, bob 1, cid 3"))
        below = made(7, "ann -1, bob -3, - 4")
        self.assertEqual(with_gift(below, "ann", "bob", (2, 1)), made(7, "ann -3, bob -1, - 4"))

    def test_nought_and_below_nought(self):
        for given in ((0, 1), (-1, 1), (-1, 2), (-2, 1), (-1, 10 ** 50)):
            self.assertRaises(NoGift, with_gift, THREE, "ann", "bob", given)
            self.assertRaises(NoGift, with_gift, THREE, "bob", "ann", given)
            self.assertRaises(NoGift, with_gift, THREE, "bob", "cid", given)
            self.assertRaises(NoGift, with_gift, THREE, "ann", "ann", given)

    def test_where_both_owe_alike_or_the_one_less(self):
        for given in ((1, 1), (2, 1), (1, 60), (1, 10 ** 50)):
            self.assertRaises(NoGift, with_gift, THREE, "bob", "cid", given)
            self.assertRaises(NoGift, with_gift, THREE, "bob", "ann", given)

    def test_to_oneself(self):
        for person, given in product(("ann", "bob"), ((1, 1), (3, 1), (1, 60))):
            self.assertRaises(NoGift, with_gift, THREE, person, person, given)

    def test_no_gift_of_anything(self):
        for given in strangers() + [1, 2, "1", "1/2", [1, 1], (2, 2), (2, 4), (1, 0), (1, -1), (-1, -1), (True, 1),
                                    (1, True), (1, 1, 1), (1,), ((1, 1),)]:
            with self.subTest(given=given):
                self.assertRaises(NoGift, with_gift, THREE, "ann", "bob", given)

    def test_no_person_of_one_then_of_other_then_no_gift(self):
        for thing in no_persons() + ["an", 0, 2]:
            for given in ((1, 2), (9, 1), (0, 1), None, "1/2"):
                with self.subTest(thing=thing, given=given):
                    self.assertRaises(NoPerson, with_gift, THREE, thing, "bob", given)
                    self.assertRaises(NoPerson, with_gift, THREE, "ann", thing, given)
                    self.assertRaises(NoPerson, with_gift, THREE, thing, thing, given)

    def test_a_gift_of_many_figures(self):
        gap = Fraction(10 ** 60 - 1, 10 ** 60 - 3)
        moment = (7, (("ann", told(gap / 2)), ("bob", told(-gap / 2))))
        turned = (7, (("ann", told(-gap / 2)), ("bob", told(gap / 2))))
        self.assertEqual(with_gift(moment, "ann", "bob", told(gap)), turned)
        self.assertRaises(NoGift, with_gift, moment, "ann", "bob", told(gap + Fraction(1, 10 ** 60)))

    def test_what_is_handed_in_stays(self):
        moment = made(7, "ann 3, - -5, bob 1, cid 1")
        with_gift(moment, "ann", "bob", (1, 2))
        levelling(moment)
        levelled(moment)
        self.assertEqual(moment, THREE)


class TestLevelling(unittest.TestCase):
    def test_against_the_words(self):
        for moment in MOMENTS:
            found = levelling(moment)
            self.assertEqual(found, gifts_by_words(moment))
            self.assertIs(found.__class__, list)
            for gift in found:
                self.assertIs(gift.__class__, tuple)

    def test_some_as_they_are_written(self):
        self.assertEqual(levelling(made(7, "ann 3, bob -1, cid -2")), [("ann", "cid", (2, 1)), ("ann", "bob", (1, 1))])
        self.assertEqual(levelling(made(7, "ann -1, bob -2, cid 3")), [("cid", "bob", (2, 1)), ("cid", "ann", (1, 1))])
        self.assertEqual(levelling(made(7, "ann 1/2, bob -1/2")), [("ann", "bob", (1, 2))])

    def test_fewer_gifts_than_persons(self):
        for moment in MOMENTS:
            self.assertLess(len(levelling(moment)), max(1, len(owed(moment))))

    def test_each_gift_may_be_given(self):
        for moment in MOMENTS:
            for one, other, given in levelling(moment):
                moment = with_gift(moment, one, other, given)
                self.assertTrue(is_truly_moment(moment))
            self.assertLessEqual(len(set(owed(moment).values())), 1)

    def test_no_persons_one_person_all_alike(self):
        for moment in ((1, ()), made(1, "- 0"), made(2, "- 1, - -1"), made(1, "ann 0"), made(2, "ann 1, - -1"),
                       made(1, "ann 0, bob 0"), made(2, "ann 1/2, - -1, bob 1/2")):
            with self.subTest(moment=moment):
                self.assertEqual(levelling(moment), [])
                self.assertEqual(levelled(moment), moment)

    def test_equal_ones_the_first_by_seats(self):
        moment = made(7, "zoe 2, - 0, bob -2, ann 2, mia -2")
        self.assertEqual(levelling(moment), [("zoe", "bob", (2, 1)), ("ann", "mia", (2, 1))])
        for moment, gifts in (
            (made(7, "bob -2, zoe 4, mia -2"), [("zoe", "bob", (2, 1)), ("zoe", "mia", (2, 1))]),
            (made(7, "bob 2, zoe -4, mia 2"), [("bob", "zoe", (2, 1)), ("mia", "zoe", (2, 1))]),
            (made(7, "mia -2, bob -2, zoe 4"), [("zoe", "mia", (2, 1)), ("zoe", "bob", (2, 1))]),
            (made(7, "mia 2, bob 2, zoe -4"), [("mia", "zoe", (2, 1)), ("bob", "zoe", (2, 1))]),
        ):
            self.assertEqual(levelling(moment), gifts)

    def test_an_average_that_is_not_nought(self):
        self.assertEqual(levelling(made(7, "ann 3, - -5, bob 1, cid 1")),
                         [("ann", "bob", (2, 3)), ("ann", "cid", (2, 3))])
        self.assertEqual(levelled(THREE), made(7, "ann 5/3, - -5, bob 5/3, cid 5/3"))

    def test_the_list_is_the_askers_own(self):
        for moment in (THREE, (1, ())):
            found = levelling(moment)
            kept = list(found)
            found.append(("x", "y", (1, 1)))
            found.insert(0, None)
            self.assertEqual(levelling(moment), kept)

    def test_parts_of_many_figures(self):
        long = Fraction(10 ** 60 - 1, 10 ** 60 - 3)
        row = [long, -long / 7, -long * 6 / 7 - TINY, TINY]
        moment = (9, tuple(zip("abcd", [told(one) for one in row])))
        self.assertEqual(levelling(moment), gifts_by_words(moment))
        self.assertEqual(levelled(moment), made(9, "a 0, b 0, c 0, d 0"))


class TestLevelled(unittest.TestCase):
    def test_all_persons_owe_the_average_and_empty_seats_stay(self):
        for moment in MOMENTS:
            people = owed(moment)
            seats = tuple(
                (person, told(sum(people.values()) / len(people)) if person else owes) for person, owes in moment[1]
            )
            found = levelled(moment)
            self.assertEqual(found, (moment[0], seats))
            self.assertTrue(is_truly_moment(found))
            self.assertIs(is_moment(found), True)
            for before, after in zip(greatest_sums(moment), greatest_sums(found)):
                self.assertLessEqual(after, before)

    def test_nought_where_the_kitty_is(self):
        self.assertEqual(levelled(made(3, "ann 2, bob -1, cid -1")), made(3, "ann 0, bob 0, cid 0"))
        self.assertEqual(levelled(made(3, "ann 2, - 1, bob -2, - -1")), made(3, "ann 0, - 1, bob 0, - -1"))


if __name__ == "__main__":
    unittest.main()
