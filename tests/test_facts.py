"""What a fact is, how deeds make them, and the moments behind them [20], [21], [23]."""

import unittest
from fractions import Fraction
from random import Random

from tests.ledger import State, outcome, random_deed
from tests.made import made, no_names, no_persons, no_weights, number, numbers, told
from tests.test_evenings import NO_DUTIES, NO_THERE
from tests.test_offers import NO_OFFERS
from tests.things import Flatterer, strangers
from whoserves.coming import with_person, without_person
from whoserves.evenings import behind
from whoserves.errors import NoDeed
from whoserves.facts import fact_of, moment_by
from whoserves.gifts import with_gift
from whoserves.joining import joined
from whoserves.offers import offered
from whoserves.pouring import weighed

FIVE = made(7, "ann -2, - 1, bob 3, cid 0, dan -2")
SMALL = made(7, "- 3, zoe -3")
LET = (
    (("come", "eva"), ("come", "eva", 1), with_person(FIVE, "eva")),
    (("leave", "bob"), ("leave", "bob", 2), without_person(FIVE, "bob")),
    (("evening", ("dan", "bob", "cid"), (2, 7)), ("evening", (2, 3, 4), ((2, 7), (3, 2))),
     behind(FIVE, ("dan", "bob", "cid"), (2, 7))),
    (("evening", ("cid", "ann"), ()), ("evening", (0, 3), ()), FIVE),
    (("offer", ("dan", "bob", "ann"), (("dan", 1), ("ann", 3))), ("evening", (0, 2, 4), ((4, 1), (0, 3))),
     offered(FIVE, ("dan", "bob", "ann"), (("dan", 1), ("ann", 3)))),
    (("offer", ("cid", "bob"), ()), ("evening", (2, 3), ()), FIVE),
    (("gift", "bob", "ann", (5, 2)), ("gift", 2, 0, (5, 2)), with_gift(FIVE, "bob", "ann", (5, 2))),
    (("join", SMALL), ("join", (("", (3, 1)), ("zoe", (-3, 1)))), joined(FIVE, SMALL)),
    (("join", (7, ())), ("join", ()), FIVE),
    (("weigh", 9), ("weigh", 9), weighed(FIVE, 9)),
    (("weigh", 7), ("weigh", 7), FIVE),
)
NO_DEEDS = (
    ["come", "eva"], ("come",), ("come", "eva", "eva"), ("come", "eva", 1), ("leave",), ("leave", "bob", 2),
    ("evening",), ("evening", ("ann", "bob")), ("evening", ("ann", "bob"), (1,), ()), ("evening", (0, 2), ((2, 1),), 1),
    ("offer", ("ann", "bob")), ("offer", ("ann", "bob"), (), ()), ("gift", "bob", "ann"), ("gift", "bob", (1, 1)),
    ("gift", "bob", "ann", (1, 1), (1, 1)), ("join",), ("join", SMALL, SMALL), ("join", 7, ()), ("weigh",),
    ("weigh", 7, 7), ("Come", "eva"), ("come ", "eva"), ("", "eva"), ("comes", "eva"), ("c", "eva"), (b"come", "eva"),
    ("eva", "come"), (("come", "eva"),), (("come",), "eva"), (["come"], "eva"), ({}, "eva"), ({"come"}, "eva"),
    (None, "eva"), (True, "eva"), (0, "eva"), (Flatterer(), "eva"), "come eva", "come", {"come": "eva"}, ("back", 1),
    ("right", 0, ("ann", "bob")), ("do", ("come", "eva")), ("twin",), ("part", (0,)), ("pour", SMALL), Flatterer(),
)


def refused_deeds():
    """Deeds that are refused at FIVE, with the name of the refusal's class and its values."""
    found = [(("come", "ann"), "Taken", {"person": "ann"}), (("come", "dan"), "Taken", {"person": "dan"})]
    found += [(("come", thing), "NoName", {}) for thing in no_names()]
    found += [(("leave", thing), "NoPerson", {}) for thing in no_persons()]
    for there in list(NO_THERE) + strangers():
        found += [(("evening", there, ()), "NoEvening", {}), (("evening", there, (8,)), "NoEvening", {})]
        found += [(("offer", there, ()), "NoEvening", {}), (("offer", there, (("ann", 8),)), "NoEvening", {})]
    found += [(("evening", ("dan", "ann", "cid"), duties), "NoDuty", {}) for duties in NO_DUTIES]
    found += [(("offer", ("dan", "ann", "cid"), said), "NoDuty", {}) for said in NO_OFFERS]
    found += [(("offer", ("ann", "dan"), (("ann", 8), ("dan", 7))), "NoDuty", {})]
    for thing in no_persons():
        found += [(("gift", thing, "bob", (1, 1)), "NoPerson", {}), (("gift", "bob", thing, (1, 1)), "NoPerson", {})]
        found += [(("gift", "bob", thing, (100, 1)), "NoPerson", {}), (("gift", thing, thing, 1), "NoPerson", {})]
    for thing in strangers() + [(51, 10), (0, 1), (-1, 1), (2, 2), [1, 1], 1, "1"]:
        found += [(("gift", "bob", "ann", thing), "NoGift", {}), (("gift", "ann", "bob", thing), "NoGift", {})]
    found += [(("join", (6, ())), "Unlike", {}), (("join", made(8, "ann 0")), "Unlike", {})]
    found += [(("join", made(7, "dan 0, - 0, bob 0")), "Taken", {"person": "bob"})]
    found += [(("weigh", thing), "NoWeight", {}) for thing in no_weights()]
    found += [(("weigh", 1), "Beyond", {"many": 1, "seats": (2,)})]
    return found


def others_owing(moment, seed):
    """The moment with other numbers owed by the same seats, which come to nought, perhaps far beyond the weight."""
    chance = Random(seed)
    row = [Fraction(chance.randint(-99, 99), chance.randint(1, 9)) for seat in moment[1][1:]]
    row = (row + [-sum(row, Fraction(0))])[:len(moment[1])]
    return (moment[0], tuple((person, told(one)) for (person, owes), one in zip(moment[1], row)))


class TestFactOf(unittest.TestCase):
    def test_each_deed_as_it_is_written(self):
        for deed, fact, moment in LET:
            self.assertEqual(fact_of(FIVE, deed), fact)
            self.assertIs(fact_of(FIVE, deed).__class__, tuple)

    def test_what_facts_are_made_of(self):
        found = fact_of(FIVE, ("evening", ("dan", "bob", "cid"), (2, 7)))
        self.assertEqual([found[1].__class__, found[2].__class__, found[2][0].__class__], [tuple] * 3)

    def test_coming_to_a_new_seat_and_to_the_nearest_empty_one(self):
        self.assertEqual(fact_of((3, ()), ("come", "ann")), ("come", "ann", 0))
        self.assertEqual(fact_of(made(3, "ann 1, bob -1"), ("come", "cid")), ("come", "cid", 2))
        self.assertEqual(fact_of(made(3, "- 2, ann -1, - -1"), ("come", "cid")), ("come", "cid", 2))
        self.assertEqual(fact_of(made(3, "- 1, - -1"), ("come", "cid")), ("come", "cid", 0))

    def test_an_offers_pairs_stay_as_they_were_said(self):
        moment = made(7, "ann 0, bob 0, cid 0")
        for said, done in (
            ((("cid", 1), ("ann", 3)), ((2, 1), (0, 3))), ((("ann", 3), ("cid", 1)), ((0, 3), (2, 1))),
        ):
            self.assertEqual(fact_of(moment, ("offer", ("cid", "ann"), said)), ("evening", (0, 2), done))

    def test_refused_as_a_clubs(self):
        for deed, kind, values in refused_deeds():
            with self.subTest(deed=deed):
                self.assertEqual(outcome(fact_of, FIVE, deed), ("refused", kind, values))

    def test_beyond_of_an_offer(self):
        moment = made(1, "ann -1/2, bob 1/2")
        found = outcome(fact_of, moment, ("offer", ("ann", "bob"), (("ann", 1),)))
        self.assertEqual(found, ("refused", "Beyond", {"many": 1, "seats": (1,)}))

    def test_no_deed_of_anything(self):
        for deed in list(NO_DEEDS) + strangers() + [(thing,) for thing in strangers()]:
            with self.subTest(deed=deed):
                self.assertRaises(NoDeed, fact_of, FIVE, deed)

    def test_no_deed_goes_ahead_of_other_refusals(self):
        for deed in (("come", "Ann", 1), ("leave", "me", 0), ("evening", (), (), 1), ("weigh", 0, 0), ("gift", 1, 2)):
            self.assertRaises(NoDeed, fact_of, FIVE, deed)


class TestMomentBy(unittest.TestCase):
    def test_each_fact_as_the_deed_does(self):
        for deed, fact, moment in LET:
            self.assertEqual(moment_by(FIVE, fact), moment)
            self.assertEqual(FIVE, made(7, "ann -2, - 1, bob 3, cid 0, dan -2"))

    def test_at_a_moment_alike_but_for_what_seats_owe(self):
        for seed in range(20):
            moment = others_owing(FIVE, seed)
            for deed, fact, same in LET:
                found = moment_by(moment, fact)
                before, after = numbers(FIVE), numbers(same)
                owes = numbers(moment) + [Fraction(0)] * 2
                more = [one - other for one, other in zip(after, before + [Fraction(0)] * 2)]
                self.assertEqual(numbers(found), [one + other for one, other in zip(owes, more)])
                self.assertEqual(found[0], same[0])
                self.assertEqual([person for person, owed in found[1]], [person for person, owed in same[1]])

    def test_who_came_sits_where_the_fact_says(self):
        moment = made(7, "- 9, ann -8, - -1")
        self.assertEqual(moment_by(moment, ("come", "bob", 0)), made(7, "bob 9, ann -8, - -1"))
        self.assertEqual(moment_by(moment, ("come", "bob", 2)), made(7, "- 9, ann -8, bob -1"))
        self.assertEqual(moment_by(moment, ("come", "bob", 3)), made(7, "- 9, ann -8, - -1, bob 0"))

    def test_a_gift_that_is_greater_than_the_difference(self):
        moment = made(1, "ann 0, bob 1/3, cid -1/3")
        self.assertEqual(moment_by(moment, ("gift", 0, 1, (5, 1))), made(1, "ann -5, bob 16/3, cid -1/3"))

    def test_a_row_that_is_not_within_stays_so(self):
        moment = made(1, "ann 50, bob -50")
        self.assertEqual(moment_by(moment, ("weigh", 2)), made(2, "ann 50, bob -50"))
        self.assertEqual(moment_by(moment, ("leave", "ann", 0)), made(1, "- 50, bob -50"))
        self.assertEqual(moment_by(moment, ("evening", (0, 1), ((1, 1),))), made(1, "ann 101/2, bob -101/2"))
        self.assertEqual(moment_by(moment, ("join", (("cid", (0, 1)),))), made(1, "ann 50, bob -50, cid 0"))

    def test_against_the_ledger(self):
        for seed in range(40):
            chance, state = Random(seed), State(4)
            for turn in range(40):
                found = outcome(fact_of, state.moment(), random_deed(chance, state))
                if found[0] == "told":
                    after = state.after(found[1])
                    self.assertEqual(moment_by(state.moment(), found[1]), after.moment())
                    moment = others_owing(state.moment(), turn)
                    other = State(4, state.names, numbers(moment))
                    other.weight = state.weight
                    self.assertEqual(moment_by(moment, found[1]), other.after(found[1]).moment())
                    state = after
            self.assertGreater(len(state.names), 1)

    def test_parts_of_gifts_are_as_they_were_given(self):
        fact = fact_of(FIVE, ("gift", "bob", "ann", (5, 3)))
        self.assertEqual(number(fact[3]), Fraction(5, 3))
        self.assertEqual(moment_by(FIVE, fact), made(7, "ann -1/3, - 1, bob 4/3, cid 0, dan -2"))


if __name__ == "__main__":
    unittest.main()
