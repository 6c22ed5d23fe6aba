"""Offers: where one is done, and where it is refused with Beyond [12]."""

import unittest
from fractions import Fraction
from random import Random

from tests.made import evenings_of, first_fall, is_truly_moment, made, no_persons, row_serving, told
from tests.test_evenings import NO_THERE
from tests.things import strangers
from whoserves.errors import Beyond, NoDuty, NoEvening
from whoserves.evenings import behind, served
from whoserves.moments import is_moment
from whoserves.offers import offered

FIVE = made(7, "ann -2, - 1, bob 3, cid 0, dan -2")
THERE = ("dan", "ann", "cid")
NO_OFFERS = (
    [], [("ann", 3)], (["ann", 3],), (("ann", 3), ["cid", 1]), ("ann", 3), (("ann",),), (("ann", 3, 1),), ((),),
    ((3, "ann"),), ({"ann": 3},), {"ann": 3}, "ann", ("an",), (3,), 3, 0, (("ann", 3), None), ((("ann", 3),),),
    (("ann", 3), ("ann", 3)), (("ann", 1), ("cid", 1), ("ann", 2)), (("bob", 3),), (("stranger", 3),), (("", 3),),
    (("ann", 3), ("bob", 3)), (("ann", 0),), (("ann", -1),), (("ann", 8),), (("ann", 10 ** 40),), (("ann", True),),
    (("ann", False),), (("ann", "3"),), (("ann", None),), (("ann", (3, 1)),), (("cid", 3), ("ann", 8)),
    (("ann", 3), ("cid", 3), ("dan", 3), ("bob", 3)),
)


def offers(seed, many):
    """Moments, each with an offer of some of those there, in any order."""
    chance = Random(seed)
    found = []
    for moment, there, duties in evenings_of(seed, many, most_seats=6):
        serving = chance.sample(there, len(duties))
        found.append((moment, there, tuple(zip(serving, duties))))
    return found


class TestOffered(unittest.TestCase):
    def test_against_the_words(self):
        done = refused = 0
        for moment, there, said in offers(12, 1500):
            row = row_serving(moment, there, said)
            fallen = first_fall(moment[0], row)
            if fallen is None:
                done += 1
                found = offered(moment, there, said)
                people = [person for person, owes in moment[1]]
                self.assertEqual(found, (moment[0], tuple(zip(people, [told(one) for one in row]))))
                self.assertTrue(is_truly_moment(found))
                self.assertIs(is_moment(found), True)
            else:
                refused += 1
                with self.assertRaises(Beyond) as caught:
                    offered(moment, there, said)
                self.assertEqual((caught.exception.many, caught.exception.seats), fallen)
                self.assertIs(caught.exception.seats.__class__, tuple)
        self.assertGreater(min(done, refused), 150)

    def test_what_the_rule_serves_may_be_offered(self):
        for moment, there, duties in evenings_of(13, 200):
            said = served(moment, there, duties)
            self.assertEqual(offered(moment, there, said), behind(moment, there, duties))
            self.assertEqual(offered(moment, there, said[::-1]), behind(moment, there, duties))

    def test_no_pairs_at_all(self):
        self.assertEqual(offered(FIVE, THERE, ()), FIVE)
        widest = made(3, "ann 3, bob 0, cid -3")
        self.assertEqual(offered(widest, ("ann", "cid"), ()), widest)

    def test_some_as_they_are_written(self):
        self.assertEqual(offered(FIVE, THERE, (("ann", 3),)), made(7, "ann -4, - 1, bob 3, cid 1, dan -1"))
        self.assertEqual(offered(FIVE, ("bob", "ann"), (("ann", 2), ("bob", 4))),
                         made(7, "ann -1, - 1, bob 2, cid 0, dan -2"))

    def test_just_within_and_just_beyond(self):
        moment = made(4, "ann 0, bob 0")
        self.assertEqual(offered(moment, ("ann", "bob"), (("ann", 4),)), made(4, "ann -2, bob 2"))
        for tiny in (Fraction(1, 10 ** 50), Fraction(1, 60)):
            within = (4, (("ann", told(tiny)), ("bob", told(-tiny))))
            beyond = (4, (("ann", told(-tiny)), ("bob", told(tiny))))
            self.assertTrue(is_truly_moment(offered(within, ("ann", "bob"), (("ann", 4),))))
            with self.assertRaises(Beyond) as caught:
                offered(beyond, ("ann", "bob"), (("ann", 4),))
            self.assertEqual((caught.exception.many, caught.exception.seats), (1, (1,)))

    def test_the_least_number_and_its_seats(self):
        moment = made(1, "ann 1, bob 0, cid -1")
        with self.assertRaises(Beyond) as caught:
            offered(moment, ("ann", "cid"), (("cid", 1),))
        self.assertEqual((caught.exception.many, caught.exception.seats), (1, (0,)))
        # Each alone is within its most of 1, both together are beyond theirs, and owe alike.
        moment = made(1, "cid -1, ann 1/2, bob 1/2")
        with self.assertRaises(Beyond) as caught:
            offered(moment, ("bob", "cid", "ann"), (("cid", 1),))
        self.assertEqual((caught.exception.many, caught.exception.seats), (2, (1, 2)))
        moment = made(1, "cid -1, ann 1/4, bob 3/4")
        with self.assertRaises(Beyond) as caught:
            offered(moment, ("bob", "cid"), (("cid", 1),))
        self.assertEqual((caught.exception.many, caught.exception.seats), (1, (2,)))

    def test_seats_greatest_first(self):
        moment = made(2, "cid -2, ann 1/2, bob 3/2")
        with self.assertRaises(Beyond) as caught:
            offered(moment, ("bob", "cid", "ann"), (("cid", 1),))
        self.assertEqual((caught.exception.many, caught.exception.seats), (2, (2, 1)))

    def test_seats_of_who_is_not_there_count_too(self):
        moment = made(1, "bob -1/2, - 3/2, ann 1/2, cid -3/2")
        with self.assertRaises(Beyond) as caught:
            offered(moment, ("ann", "bob"), (("bob", 1),))
        self.assertEqual((caught.exception.many, caught.exception.seats), (2, (1, 2)))

    def test_a_refused_offer_changes_nothing(self):
        moment, there, said = made(1, "ann 1, bob 0, cid -1"), ("ann", "cid"), (("cid", 1),)
        self.assertRaises(Beyond, offered, moment, there, said)
        self.assertEqual((moment, there, said), (made(1, "ann 1, bob 0, cid -1"), ("ann", "cid"), (("cid", 1),)))

    def test_what_is_handed_in_stays(self):
        moment, said = made(7, "ann -2, - 1, bob 3, cid 0, dan -2"), (("ann", 3),)
        offered(moment, THERE, said)
        self.assertEqual((moment, said), (FIVE, (("ann", 3),)))


class TestRefusals(unittest.TestCase):
    def test_no_evening_of_anything(self):
        for there in strangers() + list(NO_THERE) + [("ann", person) for person in no_persons()]:
            for said in ((), (("ann", 3),), (("ann", 0),), None):
                with self.subTest(there=there, said=said):
                    self.assertRaises(NoEvening, offered, FIVE, there, said)

    def test_no_duty_of_anything(self):
        for said in [thing for thing in strangers() if thing != ()] + list(NO_OFFERS):
            with self.subTest(said=said):
                self.assertRaises(NoDuty, offered, FIVE, THERE, said)

    def test_a_pair_is_of_one_that_is_there_and_a_duty(self):
        for thing in no_persons() + ["bob", 0, 2]:
            with self.subTest(person=thing):
                self.assertRaises(NoDuty, offered, FIVE, THERE, ((thing, 3),))
                self.assertRaises(NoDuty, offered, FIVE, THERE, (("ann", 1), (thing, 3)))
        for thing in strangers() + [0, -1, 8, "3", (3, 1)]:
            with self.subTest(duty=thing):
                self.assertRaises(NoDuty, offered, FIVE, THERE, (("ann", thing),))
                self.assertRaises(NoDuty, offered, FIVE, THERE, (("cid", 1), ("ann", thing)))

    def test_no_duty_goes_ahead_of_beyond(self):
        widest = made(3, "ann 3, bob 0, cid -3")
        self.assertRaises(Beyond, offered, widest, ("ann", "cid"), (("cid", 3),))
        self.assertRaises(NoDuty, offered, widest, ("ann", "cid"), (("cid", 4),))
        self.assertRaises(NoDuty, offered, widest, ("ann", "cid"), (("cid", 3), ("cid", 3)))
        self.assertRaises(NoDuty, offered, widest, ("ann", "bob"), (("cid", 3),))
        self.assertRaises(NoEvening, offered, widest, ("cid",), (("cid", 3),))
        self.assertRaises(NoEvening, offered, widest, ["ann", "cid"], (("cid", 4),))


if __name__ == "__main__":
    unittest.main()
