"""Evenings foretold [25], and stretches of a club [26], [4]."""

import unittest
from fractions import Fraction
from random import Random

from tests.ledger import State, evening_deed
from tests.made import evenings_of, made, no_weights, number, numbers
from tests.test_evenings import NO_DUTIES, NO_THERE, serving
from tests.things import Flatterer, no_whole_numbers, strangers
from tests.walks import Walk
from whoserves.clubs import Club
from whoserves.errors import NoDuty, NoEvening, NoFact
from whoserves.evenings import behind
from whoserves.stretches import foretold, stretch

FIVE = made(7, "ann -2, - 1, bob 3, cid 0, dan -2")


def long_evenings(seed, many):
    """A moment, and so many evenings that may come next."""
    chance = Random(seed)
    moment = evenings_of(seed, 1)[0][0]
    people = State(moment[0], [person for person, owes in moment[1]], numbers(moment))
    return moment, [evening_deed(chance, people)[1:] for turn in range(many)]


def whole_club():
    """A club in whose history there is each kind of fact."""
    club = Club(6, persons=("ann", "bob"))
    club.evening(("ann", "bob"), (6, 1))
    club.come("cid")
    club.offer(("ann", "cid", "bob"), (("cid", 3), ("bob", 6)))
    club.gift("ann", "cid", part=(1, 2))
    club.leave("bob")
    club.join(made(6, "zoe 5/3, - -2, yan 1/3"))
    club.come("dan")
    club.evening(("dan", "zoe"), (4,))
    club.gift("dan", "zoe", part=(1, 3))
    club.weigh(8)
    return club


class TestForetold(unittest.TestCase):
    def test_one_behind_the_other(self):
        for seed in range(30):
            for many in (0, 1, 2, 7, 20):
                moment, evenings = long_evenings(seed, many)
                now, expected = moment, []
                for there, duties in evenings:
                    expected.append(serving(now, there, duties))
                    now = behind(now, there, duties)
                self.assertEqual(foretold(moment, evenings), expected)

    def test_as_they_are_served_when_they_come(self):
        for seed in range(20):
            moment, evenings = long_evenings(seed, 12)
            club = Club(moment[0])
            club.join(moment)
            told = foretold(club.moment(), evenings)
            self.assertEqual([club.evening(*evening) for evening in evenings], told)

    def test_some_as_they_are_written(self):
        self.assertEqual(foretold(FIVE, []), [])
        both = ("ann", "bob")
        evenings = [(both, (7,)), (both, (1,)), (("cid", "dan"), ()), (("cid", "bob", "ann"), (2, 3))]
        self.assertEqual(foretold(FIVE, evenings), [(("bob", 7),), (("ann", 1),), (), (("ann", 3), ("bob", 2))])

    def test_sixty_of_them(self):
        moment, evenings = long_evenings(3, 60)
        self.assertEqual(len(foretold(moment, evenings)), 60)

    def test_refused_as_the_first_that_is_refused(self):
        good, no_evening, no_duty = (("ann", "bob"), (7,)), (("ann",), (8,)), (("ann", "bob"), (8,))
        for evenings, refusal in (
            ([no_evening], NoEvening), ([no_duty], NoDuty), ([good, no_duty, no_evening], NoDuty),
            ([good, no_evening, no_duty], NoEvening), ([good, good, no_duty, good], NoDuty),
        ):
            self.assertRaises(refusal, foretold, FIVE, evenings)

    def test_of_anything(self):
        for there in list(NO_THERE) + strangers():
            self.assertRaises(NoEvening, foretold, FIVE, [(("ann", "bob"), (7,)), (there, (8,))])
        for duties in NO_DUTIES:
            self.assertRaises(NoDuty, foretold, FIVE, [(("ann", "bob"), (7,)), (("ann", "bob", "cid"), duties)])

    def test_what_is_handed_in_stays_and_the_list_is_the_askers_own(self):
        club = Club(7)
        club.join(FIVE)
        evenings = [(("ann", "bob"), (7,)), (("ann", "bob"), (1,))]
        told = foretold(club.moment(), evenings)
        self.assertEqual((len(club), club.moment()), (1, FIVE))
        self.assertEqual(evenings, [(("ann", "bob"), (7,)), (("ann", "bob"), (1,))])
        evenings.clear()
        self.assertEqual(told, [(("bob", 7),), (("ann", 1),)])
        self.assertIs(told.__class__, list)


class TestStretch(unittest.TestCase):
    def check(self, walk, first, last):
        """A stretch is as the ledger has it, makes what is owed at the end, and is no wider than promised."""
        club = walk.club
        found = stretch(club, first, last)
        self.assertEqual(found, walk.ledger.stretch(first, last))
        begin, end = club.moment(first), club.moment(last)
        owes = numbers(begin) + [Fraction(0)] * (len(end[1]) - len(begin[1]))
        for seat, row in enumerate(found):
            served, shares, given, brought = [number(one) for one in row]
            self.assertEqual(numbers(end)[seat], owes[seat] + shares + given + brought - served)
            widest = max(begin[0], end[0]) * (len(end[1]) - 1)
            self.assertLessEqual(abs(served - shares - given - brought), widest)

    def test_in_long_histories_with_takings_back_and_settings_right(self):
        for seed in range(500, 530):
            walk = Walk(seed)
            for turn in range(8):
                walk.go(self, 10)
                many = len(walk.club)
                for first, last in ((0, many), (many, many), (many // 2, many), (many // 3, many // 2), (0, 0)):
                    self.check(walk, first, last)

    def test_all_stretches_of_some_clubs(self):
        for seed in (540, 541, 542):
            walk = Walk(seed).go(self, 40)
            for last in range(len(walk.club) + 1):
                for first in range(last + 1):
                    self.check(walk, first, last)

    def test_as_it_is_written(self):
        club = whole_club()
        nought = (0, 1)
        self.assertEqual(len(club), 12)
        self.assertEqual(club.moment(6), made(6, "ann 0, bob -1/2, cid 1/2"))
        self.assertEqual(club.moment(), made(8, "ann 0, dan 7/6, cid 1/2, zoe 0, - -2, yan 1/3"))
        self.assertEqual(stretch(club, 0, 12), [
            ((6, 1), (13, 2), (-1, 2), nought), ((7, 1), (17, 2), (-1, 3), nought), ((3, 1), (3, 1), (1, 2), nought),
            ((4, 1), (2, 1), (1, 3), (5, 3)), (nought, nought, nought, (-2, 1)), (nought, nought, nought, (1, 3)),
        ])

    def test_to_the_same_and_to_the_next(self):
        club = whole_club()
        nothing = ((0, 1),) * 4
        for at in range(13):
            self.assertEqual(stretch(club, at, at), [nothing] * len(club.moment(at)[1]))
        self.assertEqual(stretch(club, 0, 1), [nothing])
        self.assertEqual(stretch(club, 2, 3), [((6, 1), (7, 2), (0, 1), (0, 1)), ((1, 1), (7, 2), (0, 1), (0, 1))])
        self.assertEqual(stretch(club, 3, 4), [nothing] * 3)
        self.assertEqual(stretch(club, 7, 8)[:3], [nothing] * 3)
        self.assertEqual([row[3] for row in stretch(club, 7, 8)[3:]], [(5, 3), (-2, 1), (1, 3)])
        self.assertEqual(stretch(club, 8, 12)[3], ((4, 1), (2, 1), (1, 3), (0, 1)))

    def test_what_joined_ahead_of_it_was_not_brought_within(self):
        club = Club(2)
        club.join(made(2, "ann 1, bob -1"))
        club.join(made(2, "cid 1/2, - -1/2"))
        self.assertEqual([row[3] for row in stretch(club, 0, 2)], [(1, 1), (-1, 1), (1, 2), (-1, 2)])
        self.assertEqual([row[3] for row in stretch(club, 1, 2)], [(0, 1), (0, 1), (1, 2), (-1, 2)])
        self.assertEqual([row[3] for row in stretch(club, 0, 1)], [(1, 1), (-1, 1)])
        self.assertEqual([row[3] for row in stretch(club, 2, 2)], [(0, 1)] * 4)

    def test_behind_a_setting_right(self):
        club = Club(6, persons=("ann", "bob", "cid"))
        club.evening(("ann", "bob"), (6,))
        self.assertEqual(stretch(club, 3, 4), [
            ((6, 1), (3, 1), (0, 1), (0, 1)), ((0, 1), (3, 1), (0, 1), (0, 1)), ((0, 1),) * 4,
        ])
        club.set_right(3, ("ann", "cid"))
        self.assertEqual([row[1] for row in stretch(club, 3, 4)], [(3, 1), (0, 1), (3, 1)])
        club.back()
        self.assertEqual(stretch(club, 0, 3), [((0, 1),) * 4] * 3)
        self.assertRaises(NoFact, stretch, club, 3, 4)

    def test_no_fact_of_anything(self):
        club = whole_club()
        for thing in no_whole_numbers() + [13, -1, -13, 10 ** 40, Flatterer()]:
            for other in (0, 5, 12):
                self.assertRaises(NoFact, stretch, club, thing, other)
                self.assertRaises(NoFact, stretch, club, other, thing)
            self.assertRaises(NoFact, stretch, club, thing, thing)
        for first, last in ((1, 0), (12, 0), (12, 11), (6, 5)):
            self.assertRaises(NoFact, stretch, club, first, last)

    def test_a_new_club(self):
        self.assertEqual(stretch(Club(), 0, 0), [])
        self.assertRaises(NoFact, stretch, Club(), 0, 1)
        for thing in no_weights():
            if not isinstance(thing, int) or thing:
                self.assertRaises(NoFact, stretch, Club(), 0, thing)

    def test_the_club_stays_and_the_list_is_the_askers_own(self):
        club = whole_club()
        told = stretch(club, 0, 12)
        self.assertIs(told.__class__, list)
        self.assertTrue(all(row.__class__ is tuple for row in told))
        told.clear()
        self.assertEqual(len(stretch(club, 0, 12)), 6)
        self.assertTrue(club == whole_club())


if __name__ == "__main__":
    unittest.main()
