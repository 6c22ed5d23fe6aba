"""Clubs: their deeds, facts, moments and payments, takings back, settings right, twins [20] to [24]."""

import unittest
from fractions import Fraction

from tests.ledger import outcome
from tests.made import made, no_names, no_persons, no_weights, number
from tests.test_evenings import NO_THERE
from tests.test_facts import FIVE, LET, NO_DEEDS, SMALL, refused_deeds
from tests.things import Flatterer, no_whole_numbers, strangers
from whoserves.clubs import Club
from whoserves.errors import Astray, NoBack, NoDeed, NoDuty, NoEvening, NoFact, NoName, NoWeight, Taken
from whoserves.moments import kitty

TELLINGS = {
    ("come", "eva"): (1, (1, 1)), ("leave", "bob"): (3, 1),
    ("evening", ("dan", "bob", "cid"), (2, 7)): (("bob", 7), ("cid", 2)), ("evening", ("cid", "ann"), ()): (),
}


def five():
    """A club whose moment of now is FIVE, by one fact."""
    club = Club(7)
    club.join(FIVE)
    return club


def all_of(club):
    """All that a club tells, to see that nothing has changed."""
    return (club.facts(), [club.moment(at) for at in range(len(club) + 1)], club.moment(), club.payments(), len(club))


def by_method(club, deed):
    """Does a deed by the method of its word."""
    word, *things = deed
    if word == "gift":
        return club.gift(*things[:2], part=things[2])
    return getattr(club, word)(*things)


def old_evening():
    """A club of which an evening can be set right: the third fact; ann comes, leaves and bob leaves behind it."""
    club = Club(6, persons=("ann", "bob", "cid"))
    club.evening(("ann", "bob"), (6,))
    club.leave("ann")
    club.gift("bob", "cid", part=(1, 1))
    club.come("dan")
    club.leave("bob")
    return club


class TestBeginning(unittest.TestCase):
    def test_a_new_club(self):
        for club, weight in ((Club(), 1), (Club(5), 5), (Club(weight=9), 9), (Club(3, persons=()), 3)):
            self.assertEqual(all_of(club), ([], [(weight, ())], (weight, ()), [], 0))

    def test_no_weight_of_anything(self):
        for weight in no_weights():
            self.assertRaises(NoWeight, Club, weight)
            self.assertRaises(NoWeight, Club, weight, persons=("Ann",))

    def test_persons_come_as_by_the_deed(self):
        club, other = Club(4, persons=("bob", "ann")), Club(4)
        other.come("bob")
        other.come("ann")
        self.assertEqual(all_of(club), all_of(other))
        self.assertEqual(club.facts(), [("come", "bob", 0), ("come", "ann", 1)])
        self.assertEqual(club.payments(), [(0, "bob", (0, 1)), (1, "ann", (0, 1))])

    def test_persons_are_refused_as_by_the_deed(self):
        with self.assertRaises(Taken) as caught:
            Club(4, persons=("bob", "ann", "bob", "Cid"))
        self.assertEqual(caught.exception.person, "bob")
        for thing in no_names():
            self.assertRaises(NoName, Club, 4, persons=("bob", thing))

    def test_persons_are_handed_in_by_their_name_alone(self):
        self.assertRaises(TypeError, Club, 4, ("ann",))


class TestDeeds(unittest.TestCase):
    def test_each_deed_by_its_method_and_by_do(self):
        for deed, fact, moment in LET:
            for does in (by_method, Club.do):
                club = five()
                self.assertEqual(does(club, deed), TELLINGS.get(deed))
                self.assertEqual(club.facts(), [("join", FIVE[1]), fact])
                self.assertEqual([club.moment(at) for at in range(3)], [(7, ()), FIVE, moment])
                self.assertEqual((club.moment(), len(club)), (moment, 2))

    def test_tuples_are_told(self):
        club = five()
        self.assertIs(club.evening(("cid", "ann"), (1,)).__class__, tuple)
        self.assertIs(club.evening(("cid", "ann"), ()).__class__, tuple)
        self.assertIs(club.come("eva").__class__, tuple)

    def test_what_is_paid_at_a_new_seat_and_below_nought(self):
        club = Club(3)
        self.assertEqual(club.come("ann"), (0, (0, 1)))
        self.assertEqual(club.come("bob"), (1, (0, 1)))
        club.evening(("ann", "bob"), (3,))
        self.assertEqual(club.leave("ann"), (-3, 2))
        self.assertEqual(club.leave("bob"), (3, 2))
        self.assertEqual(club.come("cid"), (0, (-3, 2)))
        self.assertEqual(club.come("dan"), (1, (3, 2)))

    def test_refused_deeds_change_nothing(self):
        club = five()
        before = all_of(club)
        for deed, kind, values in refused_deeds():
            for does in (by_method, Club.do):
                self.assertEqual(outcome(does, club, deed), ("refused", kind, values))
                self.assertEqual(all_of(club), before)

    def test_beyond_of_an_offer(self):
        club = Club(1)
        club.join(made(1, "ann -1/2, bob 1/2"))
        before = all_of(club)
        found = outcome(club.offer, ("ann", "bob"), (("ann", 1),))
        self.assertEqual(found, ("refused", "Beyond", {"many": 1, "seats": (1,)}))
        self.assertEqual(all_of(club), before)

    def test_no_deed_of_anything(self):
        club = five()
        before = all_of(club)
        for deed in list(NO_DEEDS) + strangers() + [(thing,) for thing in strangers()]:
            with self.subTest(deed=deed):
                self.assertRaises(NoDeed, club.do, deed)
                self.assertEqual(all_of(club), before)

    def test_the_part_of_a_gift_is_handed_in_by_its_name_alone(self):
        self.assertRaises(TypeError, five().gift, "bob", "ann", (1, 1))

    def test_joining_brings_persons_seats_and_a_kitty(self):
        club = five()
        self.assertEqual(kitty(club.moment()), (1, 1))
        club.join(SMALL)
        self.assertEqual(kitty(club.moment()), (4, 1))
        self.assertEqual(club.leave("zoe"), (-3, 1))
        self.assertEqual(club.payments(), [(2, "zoe", (-3, 1))])
        self.assertEqual(kitty(club.moment()), (1, 1))
        self.assertEqual(club.come("zoe"), (1, (1, 1)))

    def test_weighed_the_duties_are_up_to_the_new_weight(self):
        club = Club(2, persons=("ann", "bob"))
        self.assertRaises(NoDuty, club.evening, ("ann", "bob"), (3,))
        club.weigh(3)
        self.assertEqual(club.evening(("ann", "bob"), (3,)), (("ann", 3),))
        found = outcome(club.weigh, 2)
        self.assertEqual(found, ("refused", "Beyond", {"many": 1, "seats": (1,)}))


class TestDoAll(unittest.TestCase):
    def test_what_each_tells(self):
        club, other = five(), five()
        self.assertEqual(club.do_all([]), [])
        self.assertEqual(all_of(club), all_of(other))
        deeds = [LET[place][0] for place in (0, 6, 2, 3, 4, 7, 9)]
        self.assertEqual(club.do_all(deeds), [other.do(deed) for deed in deeds])
        self.assertEqual(all_of(club), all_of(other))

    def test_one_behind_the_other(self):
        club = Club(2)
        tellings = club.do_all([
            ("come", "ann"), ("come", "bob"), ("evening", ("ann", "bob"), (2,)), ("leave", "ann"), ("come", "ann"),
        ])
        self.assertEqual(tellings, [(0, (0, 1)), (1, (0, 1)), (("ann", 2),), (-1, 1), (0, (-1, 1))])

    def test_where_one_is_refused_none_is_done(self):
        club = five()
        before = all_of(club)
        for deed, kind, values in refused_deeds() + [(thing, "NoDeed", {}) for thing in NO_DEEDS]:
            for deeds in ([deed], [("gift", "bob", "ann", (1, 2)), deed, ("come", "gus")], [("weigh", 7), deed]):
                self.assertEqual(outcome(club.do_all, deeds), ("refused", kind, values))
                self.assertEqual(all_of(club), before)

    def test_the_first_refusal_is_told(self):
        club = Club(2)
        self.assertRaises(NoDeed, club.do_all, [("come", "ann"), None, ("come", "Bob")])
        self.assertRaises(NoName, club.do_all, [("come", "ann"), ("come", "Bob"), None])
        with self.assertRaises(Taken) as caught:
            club.do_all([("come", "ann"), ("come", "bob"), ("come", "bob"), ("come", "ann")])
        self.assertEqual(caught.exception.person, "bob")
        self.assertEqual(len(club), 0)

    def test_the_list_of_deeds_stays_and_may_be_changed(self):
        club, deeds = Club(2), [("come", "ann"), ("come", "bob")]
        tellings = club.do_all(deeds)
        self.assertEqual(deeds, [("come", "ann"), ("come", "bob")])
        deeds.clear()
        tellings.clear()
        self.assertEqual(club.facts(), [("come", "ann", 0), ("come", "bob", 1)])
        club.come("cid")
        self.assertEqual(len(club), 3)


class TestTold(unittest.TestCase):
    def test_moments_by_their_numbers(self):
        club = old_evening()
        self.assertEqual(club.moment(0), (6, ()))
        self.assertEqual(club.moment(3), made(6, "ann 0, bob 0, cid 0"))
        self.assertEqual(club.moment(4), made(6, "ann -3, bob 3, cid 0"))
        self.assertEqual(club.moment(5), made(6, "- -3, bob 3, cid 0"))
        self.assertEqual(club.moment(6), made(6, "- -3, bob 2, cid 1"))
        self.assertEqual(club.moment(7), made(6, "dan -3, bob 2, cid 1"))
        self.assertEqual(club.moment(8), made(6, "dan -3, - 2, cid 1"))
        self.assertEqual(club.moment(number=8), club.moment())
        self.assertEqual(club.moment(None), club.moment())
        self.assertEqual(club.moment(number=None), club.moment())

    def test_no_fact_of_anything_but_none(self):
        for club in (old_evening(), Club(2)):
            things = [thing for thing in no_whole_numbers() if thing is not None]
            for thing in things + [len(club) + 1, -1, -len(club) - 1, 10 ** 40, Flatterer()]:
                with self.subTest(thing=thing):
                    self.assertRaises(NoFact, club.moment, thing)

    def test_facts_as_they_are_written(self):
        self.assertEqual(old_evening().facts(), [
            ("come", "ann", 0), ("come", "bob", 1), ("come", "cid", 2), ("evening", (0, 1), ((0, 6),)),
            ("leave", "ann", 0), ("gift", 1, 2, (1, 1)), ("come", "dan", 0), ("leave", "bob", 1),
        ])

    def test_payments_as_they_are_written(self):
        self.assertEqual(old_evening().payments(), [
            (0, "ann", (0, 1)), (1, "bob", (0, 1)), (2, "cid", (0, 1)), (4, "ann", (-3, 1)), (6, "dan", (3, 1)),
            (7, "bob", (2, 1)),
        ])

    def test_payments_come_to_the_kitty(self):
        club = old_evening()
        together = sum([number(part) for at, person, part in club.payments()], Fraction(0))
        self.assertEqual(together, number(kitty(club.moment())))

    def test_lists_are_the_askers_own(self):
        club = old_evening()
        before = all_of(club)
        for told in (club.facts(), club.payments(), club.set_right(3, ("ann", "bob", "cid"))):
            self.assertIs(told.__class__, list)
            told.clear()
        club.set_right(3, ("ann", "bob"))
        self.assertEqual(all_of(club), before)
        facts = club.facts()
        facts[0] = facts[3] = None
        self.assertEqual(all_of(club), before)

    def test_a_told_list_stays_when_the_club_goes_on(self):
        club = old_evening()
        facts, payments, many = club.facts(), club.payments(), len(club)
        club.come("eva")
        self.assertEqual((len(facts), len(payments), len(club)), (many, 6, many + 1))

    def test_len(self):
        self.assertEqual([len(Club()), len(five()), len(old_evening())], [0, 1, 8])

    def test_equal_where_first_weights_and_facts_are_alike(self):
        self.assertTrue(old_evening() == old_evening())
        self.assertTrue(Club(3) == Club(3))
        self.assertFalse(Club(3) == Club(4))
        self.assertTrue(Club(3) != Club(4))
        self.assertFalse(old_evening() != old_evening())
        self.assertFalse(Club(3, persons=("ann",)) == Club(3))
        self.assertFalse(Club(3, persons=("ann", "bob")) == Club(3, persons=("bob", "ann")))
        offered, served = Club(3, persons=("ann", "bob")), Club(3, persons=("ann", "bob"))
        offered.offer(("ann", "bob"), (("ann", 2),))
        served.evening(("bob", "ann"), (2,))
        self.assertTrue(offered == served)
        heavier, weighed = Club(4), Club(3)
        weighed.weigh(4)
        self.assertFalse(heavier == weighed)
        weighed.back()
        self.assertTrue(weighed == Club(3))

    def test_alike_where_first_weights_differ_and_facts_do_not(self):
        one, other = Club(3, persons=("ann", "bob")), Club(4, persons=("ann", "bob"))
        self.assertEqual(one.facts(), other.facts())
        self.assertFalse(one == other)

    def test_equal_with_anything(self):
        club = old_evening()
        for thing in strangers() + [Flatterer(), club.facts(), club.moment(), 6, "club"]:
            self.assertIs(club == thing, False)
            self.assertIs(club != thing, True)
        self.assertIs(club == old_evening(), True)


class TestBack(unittest.TestCase):
    def test_none_some_all(self):
        for many in range(9):
            club, whole = old_evening(), old_evening()
            self.assertIs(club.back(many), None)
            left = 8 - many
            self.assertEqual(club.facts(), whole.facts()[:left])
            self.assertEqual(club.moment(), whole.moment(left))
            self.assertEqual([club.moment(at) for at in range(left + 1)], [whole.moment(at) for at in range(left + 1)])
            self.assertEqual(club.payments(), [paid for paid in whole.payments() if paid[0] < left])
            self.assertRaises(NoFact, club.moment, left + 1)

    def test_one_by_default_and_by_its_name(self):
        club = old_evening()
        self.assertIs(club.back(), None)
        self.assertEqual(len(club), 7)
        club.back(many=3)
        self.assertEqual(len(club), 4)

    def test_no_back_of_anything(self):
        club = old_evening()
        before = all_of(club)
        for thing in no_whole_numbers() + [9, -1, -8, 10 ** 40, Flatterer()]:
            with self.subTest(thing=thing):
                self.assertRaises(NoBack, club.back, thing)
                self.assertEqual(all_of(club), before)
        self.assertRaises(NoBack, Club().back)
        self.assertIs(Club().back(0), None)

    def test_the_club_goes_on_from_there(self):
        club, other = old_evening(), old_evening()
        club.back(4)
        club.evening(("cid", "bob"), (5, 1))
        other.back(4)
        self.assertEqual(club.moment(4), other.moment())
        self.assertEqual(club.facts()[4:], [("evening", (1, 2), ((1, 5), (2, 1)))])


class TestSetRight(unittest.TestCase):
    def test_as_it_is_written(self):
        club = old_evening()
        self.assertEqual(club.set_right(3, ("cid", "bob", "ann")), [
            (4, "ann", (-1, 1)), (6, "dan", (1, 1)), (7, "bob", (-1, 1)),
        ])
        self.assertEqual(club.facts(), [
            ("come", "ann", 0), ("come", "bob", 1), ("come", "cid", 2), ("evening", (0, 1, 2), ((0, 6),)),
            ("leave", "ann", 0), ("gift", 1, 2, (1, 1)), ("come", "dan", 0), ("leave", "bob", 1),
        ])
        self.assertEqual(club.moment(3), made(6, "ann 0, bob 0, cid 0"))
        self.assertEqual(club.moment(4), made(6, "ann -4, bob 2, cid 2"))
        self.assertEqual(club.moment(6), made(6, "- -4, bob 1, cid 3"))
        self.assertEqual(club.moment(), made(6, "dan -4, - 1, cid 3"))
        self.assertEqual(club.payments(), [
            (0, "ann", (0, 1)), (1, "bob", (0, 1)), (2, "cid", (0, 1)), (4, "ann", (-4, 1)), (6, "dan", (4, 1)),
            (7, "bob", (1, 1)),
        ])

    def test_the_same_persons_again(self):
        for there in (("ann", "bob"), ("bob", "ann")):
            club = old_evening()
            self.assertEqual(club.set_right(3, there), [])
            self.assertEqual(all_of(club), all_of(old_evening()))

    def test_there_and_back_again(self):
        club = old_evening()
        club.set_right(3, ("ann", "cid"))
        self.assertNotEqual(all_of(club), all_of(old_evening()))
        self.assertEqual(club.set_right(3, ("ann", "bob")), [(7, "bob", (3, 1))])
        self.assertEqual(all_of(club), all_of(old_evening()))

    def test_an_offer_is_an_evening_and_nobody_may_have_served(self):
        club = Club(6, persons=("ann", "bob", "cid"))
        club.offer(("ann", "bob", "cid"), (("cid", 3), ("bob", 3)))
        club.evening(("ann", "bob"), ())
        self.assertEqual(club.set_right(4, ("cid", "ann")), [])
        self.assertEqual(club.set_right(3, ("cid", "bob")), [])
        self.assertEqual(club.facts()[3:], [("evening", (1, 2), ((2, 3), (1, 3))), ("evening", (0, 2), ())])
        self.assertEqual(club.moment(), made(6, "ann 0, bob 0, cid 0"))

    def test_no_fact_of_anything(self):
        club = old_evening()
        before = all_of(club)
        for number_of_fact in no_whole_numbers() + [0, 1, 2, 4, 5, 6, 7, 8, -5, -1, 10 ** 40, Flatterer()]:
            for there in (("ann", "bob"), ("ann",), None, ("dan", "eva")):
                self.assertRaises(NoFact, club.set_right, number_of_fact, there)
        self.assertEqual(all_of(club), before)
        self.assertRaises(NoFact, Club().set_right, 0, ("ann", "bob"))

    def test_no_evening_of_anything(self):
        club = old_evening()
        before = all_of(club)
        no_there = list(NO_THERE) + strangers() + [
            ("bob", "cid"), ("cid", "bob"), ("ann", "dan"), ("ann", "bob", "dan"), ("ann", "bob", "ann"), Flatterer(),
        ]
        for there in no_there + [("ann", thing) for thing in no_persons()]:
            with self.subTest(there=there):
                self.assertRaises(NoEvening, club.set_right, 3, there)
                self.assertEqual(all_of(club), before)

    def test_who_sat_then_may_have_left_and_who_came_since_may_not_have_been_there(self):
        club = Club(6, persons=("ann", "bob", "cid"))
        club.evening(("ann", "bob"), (2,))
        club.do_all([("leave", "cid"), ("come", "eva"), ("leave", "ann"), ("come", "cid")])
        self.assertRaises(NoEvening, club.set_right, 3, ("ann", "eva"))
        self.assertEqual(club.set_right(3, ("ann", "cid")), [(4, "cid", (1, 1)), (5, "eva", (-1, 1))])

    def test_all_that_served_by_their_seats_of_then(self):
        club = Club(6, persons=("ann", "bob", "cid", "dan"))
        club.offer(("ann", "bob", "cid"), (("cid", 1), ("ann", 2)))
        club.do_all([("leave", "ann"), ("leave", "cid"), ("come", "cid"), ("come", "ann")])
        for there in (("ann", "bob"), ("bob", "cid"), ("bob", "dan"), ("cid", "dan", "bob")):
            self.assertRaises(NoEvening, club.set_right, 4, there)
        for there in (("cid", "ann"), ("ann", "cid", "dan"), ("dan", "cid", "bob", "ann")):
            club.set_right(4, there)
            self.assertEqual(club.facts()[4], ("evening", tuple(sorted("abcd".index(one[0]) for one in there)),
                                               ((2, 1), (0, 2))))

    def check_astray(self, club, number_of_fact, there, values):
        """The setting right is refused with Astray, its values these, and nothing is changed."""
        before = all_of(club)
        with self.assertRaises(Astray) as caught:
            club.set_right(number_of_fact, there)
        self.assertEqual((caught.exception.at, caught.exception.many, caught.exception.seats), values)
        self.assertIs(caught.exception.seats.__class__, tuple)
        self.assertEqual(all_of(club), before)

    def test_astray_at_a_later_evening(self):
        club = Club(1, persons=("ann", "bob", "cid"))
        club.offer(("ann", "bob"), (("ann", 1),))
        self.assertEqual(club.set_right(3, ("ann", "bob", "cid")), [])
        club.set_right(3, ("ann", "bob"))
        club.offer(("ann", "cid"), (("ann", 1),))
        self.assertEqual(club.moment(), made(1, "ann -1, bob 1/2, cid 1/2"))
        self.check_astray(club, 3, ("ann", "bob", "cid"), (5, 2, (2, 1)))

    def test_astray_at_the_evening_itself(self):
        club = Club(1, persons=("ann", "bob", "cid"))
        club.offer(("ann", "bob"), (("bob", 1),))
        club.offer(("bob", "cid"), (("bob", 1),))
        self.assertEqual(club.moment(), made(1, "ann 1/2, bob -1, cid 1/2"))
        self.check_astray(club, 4, ("ann", "bob", "cid"), (5, 2, (0, 2)))
        club.set_right(4, ("ann", "bob"))
        self.assertEqual(club.moment(), made(1, "ann 1, bob -1, cid 0"))

    def test_astray_at_the_first_such_moment(self):
        club = Club(1, persons=("ann", "bob", "cid"))
        for person in ("bob", "cid"):
            club.offer(("ann", person), (("ann", 1),))
        # At moment 6 the row would be within again, and at moment 7 not.
        club.weigh(3)
        club.weigh(1)
        self.check_astray(club, 3, ("ann", "bob", "cid"), (5, 2, (2, 1)))

    def test_astray_by_the_weight_of_then(self):
        club = Club(2, persons=("ann", "bob", "cid"))
        club.evening(("ann", "bob"), (2,))
        club.weigh(1)
        club.weigh(2)
        self.assertEqual(club.moment(), made(2, "ann -1, bob 1, cid 0"))
        self.check_astray(club, 3, ("ann", "bob", "cid"), (5, 2, (1, 2)))
        club.back(2)
        self.assertEqual(club.set_right(3, ("ann", "bob", "cid")), [])
        self.assertEqual(club.moment(), made(2, "ann -4/3, bob 2/3, cid 2/3"))

    def test_astray_through_a_gift_that_stays(self):
        club = Club(1, persons=("ann", "bob", "cid"))
        for turn in range(2):
            club.offer(("ann", "bob"), (("ann", 1),))
        club.gift("bob", "cid", part=(1, 1))
        self.assertEqual(club.moment(), made(1, "ann -1, bob 0, cid 1"))
        self.check_astray(club, 4, ("ann", "cid"), (6, 1, (2,)))

    def test_a_gift_that_would_be_none_stays_within(self):
        club = Club(6, persons=("ann", "bob", "cid"))
        club.offer(("ann", "bob"), (("ann", 2),))
        club.gift("bob", "ann", part=(2, 1))
        club.set_right(3, ("ann", "cid"))
        self.assertEqual(club.facts()[3:], [("evening", (0, 2), ((0, 2),)), ("gift", 1, 0, (2, 1))])
        self.assertEqual(club.moment(), made(6, "ann 1, bob -2, cid 1"))

    def test_who_sat_where_stays(self):
        club = Club(6, persons=("ann", "bob", "cid"))
        club.offer(("ann", "bob"), (("ann", 2),))
        club.do_all([("leave", "ann"), ("leave", "bob"), ("come", "dan")])
        self.assertEqual(club.moment(), made(6, "dan -1, - 1, cid 0"))
        found = club.set_right(3, ("ann", "bob", "cid"))
        self.assertEqual(found, [(4, "ann", (-1, 3)), (5, "bob", (-1, 3)), (6, "dan", (1, 3))])
        self.assertEqual(club.facts()[6], ("come", "dan", 0))
        self.assertEqual(club.moment(), made(6, "dan -4/3, - 2/3, cid 2/3"))

    def test_what_joined_stays(self):
        club = Club(6, persons=("ann", "bob", "cid"))
        club.offer(("ann", "bob"), (("ann", 2),))
        club.join(made(6, "- 2, zoe -2"))
        club.leave("zoe")
        self.assertEqual(club.set_right(3, ("ann", "cid")), [])
        self.assertEqual(club.moment(), made(6, "ann -1, bob 0, cid 1, - 2, - -2"))
        self.assertEqual(club.facts()[4], ("join", (("", (2, 1)), ("zoe", (-2, 1)))))

    def test_refusals_in_their_order(self):
        club = Club(1, persons=("ann", "bob", "cid"))
        for person in ("bob", "cid"):
            club.offer(("ann", person), (("ann", 1),))
        self.assertRaises(NoFact, club.set_right, 2, ("bob", "cid"))
        self.assertRaises(NoEvening, club.set_right, 3, ("bob", "cid"))
        self.assertRaises(NoEvening, club.set_right, 3, ["ann", "bob", "cid"])
        self.assertRaises(Astray, club.set_right, 3, ("ann", "bob", "cid"))


class TestTwin(unittest.TestCase):
    def test_the_same_history(self):
        club = old_evening()
        twin = club.twin()
        self.assertIs(twin.__class__, Club)
        self.assertIsNot(twin, club)
        self.assertTrue(twin == club)
        self.assertEqual(all_of(twin), all_of(club))

    def test_nothing_done_to_the_one_shows_in_the_other(self):
        for first in (True, False):
            club = old_evening()
            pair = (club, club.twin())
            one, other = pair if first else pair[::-1]
            before = all_of(other)
            for does in (
                lambda: one.come("eva"), lambda: one.do_all([("come", "fay"), ("come", "gus")]),
                lambda: one.set_right(3, ("ann", "cid")), lambda: one.back(3), lambda: one.weigh(12),
                lambda: one.evening(("dan", "cid"), (1,)), lambda: one.back(len(one)), lambda: one.join((6, ())),
            ):
                does()
                self.assertEqual(all_of(other), before)
                self.assertNotEqual(all_of(one), before)
                self.assertFalse(one == other)

    def test_a_twin_of_a_club_weighed_since(self):
        club = Club(3)
        club.weigh(9)
        self.assertTrue(club.twin() == club)
        twin = club.twin()
        twin.back()
        self.assertEqual(twin.moment(), (3, ()))
        self.assertTrue(twin == Club(3))


if __name__ == "__main__":
    unittest.main()
