"""Shelves: books that hands keep apart, copies, editions, what persons owe together [27], [28], [4]."""

import unittest
from fractions import Fraction
from itertools import combinations, permutations
from random import Random

from tests.ledger import PEOPLE, Ledger, outcome, random_deed, random_right
from tests.made import made, no_names, no_weights, number, owed, told
from tests.test_clubs import all_of
from tests.test_facts import FIVE, NO_DEEDS, refused_deeds
from tests.things import Flatterer, no_whole_numbers, strangers
from whoserves.clubs import Club
from whoserves.errors import Astray, NoBack, NoDeed, NoEvening, NoFact, NoName, NoWeight, Unlike
from whoserves.shelves import Shelf


def all_told(shelf):
    """All that a shelf tells, to see that nothing has changed, or that two tell alike."""
    hands = [hand for hand, edition in shelf.place()]
    copies = [all_of(shelf.copy_of(hand)) for hand in hands]
    return (shelf.place(), copies, shelf.together(), [shelf.most_of(people) for people in ((), PEOPLE[:1], PEOPLE)])


def own_of(shelf):
    """The hand and all that its own book tells."""
    return (shelf.hand(), all_of(shelf.book()))


def small_shelf(hand="ida"):
    """A shelf with an evening in its book that can be set right: edition 4."""
    shelf = Shelf(hand, weight=6)
    for deed in (("come", "ann"), ("come", "bob"), ("come", "cid"), ("evening", ("ann", "bob"), (6,))):
        shelf.do(deed)
    return shelf


class Cabinet:
    """Shelves, and beside them what each has of each hand as the test keeps it: the edition and the facts."""

    def __init__(self, seed, many):
        self.chance = Random(seed)
        self.hands = ["h" + letter for letter in "lkjihgfedcba"[:many]]
        weights = {hand: self.chance.choice((1, 3, 10 ** 29)) for hand in self.hands}
        self.shelves = {hand: Shelf(hand, weight=weights[hand]) for hand in self.hands}
        self.ledgers = {hand: Ledger(weights[hand]) for hand in self.hands}
        self.known = {hand: {hand: (0, [])} for hand in self.hands}

    def write(self, test, hand):
        """A deed, a taking back or a setting right of a hand."""
        shelf, ledger = self.shelves[hand], self.ledgers[hand]
        choice = self.chance.random()
        if choice < 0.75:
            call, given = "do", (random_deed(self.chance, ledger.states()[-1], most_seats=6),)
        elif choice < 0.85:
            call, given = "back", (self.chance.choice((0, 1, 2, 99)),)
        else:
            call, given = "set_right", random_right(self.chance, ledger)
        found = outcome(getattr(shelf, call), *given)
        test.assertEqual(found, outcome(getattr(ledger, call), *given))
        if found[0] == "told":
            self.known[hand][hand] = (self.known[hand][hand][0] + 1, list(ledger.facts))

    def take_in(self, test, hand, other):
        """One shelf takes in another one, which stays as it was."""
        before, own = all_told(self.shelves[other]), own_of(self.shelves[hand])
        test.assertIs(self.shelves[hand].take_in(self.shelves[other]), None)
        test.assertEqual(all_told(self.shelves[other]), before)
        test.assertEqual(own_of(self.shelves[hand]), own)
        for one, (edition, facts) in self.known[other].items():
            if one != hand and edition > self.known[hand].get(one, (-1,))[0]:
                self.known[hand][one] = (edition, facts)

    def check(self, test, hand):
        """What a shelf tells is what the test keeps of it."""
        shelf, known = self.shelves[hand], self.known[hand]
        test.assertEqual(shelf.place(), sorted((one, known[one][0]) for one in known))
        test.assertEqual(shelf.hand(), hand)
        states = []
        for one, (edition, facts) in known.items():
            state = self.ledgers[one].states(facts)[-1]
            states.append(state)
            test.assertEqual(shelf.copy_of(one).facts(), facts)
            test.assertEqual(shelf.copy_of(one).moment(), state.moment())
        together = {}
        for state in states:
            for name, owes in zip(state.names, state.row):
                if name:
                    together[name] = together.get(name, Fraction(0)) + owes
        test.assertEqual(shelf.together(), sorted((name, told(owes)) for name, owes in together.items()))
        for many in (0, 1, 3, 8):
            self.check_most(test, hand, states, together, self.chance.sample(PEOPLE, many))

    def check_most(self, test, hand, states, together, people):
        """The most of these persons, and that they owe that, and are owed that, at the most."""
        most = Fraction(0)
        for state in states:
            sitting = len([name for name in people if name in state.names])
            most += Fraction(state.weight * sitting * (len(state.names) - sitting), 2)
        test.assertEqual(self.shelves[hand].most_of(tuple(people)), told(most))
        test.assertLessEqual(abs(sum([together.get(name, Fraction(0)) for name in people], Fraction(0))), most)


class TestBeginning(unittest.TestCase):
    def test_a_new_shelf(self):
        for shelf, weight in ((Shelf("ida"), 1), (Shelf("ida", weight=5), 5)):
            self.assertEqual(shelf.hand(), "ida")
            self.assertEqual(all_of(shelf.book()), all_of(Club(weight)))
            self.assertTrue(shelf.book() == Club(weight) == shelf.copy_of("ida"))
            self.assertEqual((shelf.place(), shelf.together()), ([("ida", 0)], []))
            self.assertEqual((shelf.most_of(()), shelf.most_of(("ann",))), ((0, 1), (0, 1)))

    def test_no_name_then_no_weight_of_anything(self):
        for hand in no_names():
            self.assertRaises(NoName, Shelf, hand)
            self.assertRaises(NoName, Shelf, hand, weight=0)
        for weight in no_weights():
            self.assertRaises(NoWeight, Shelf, "ida", weight=weight)

    def test_the_weight_is_handed_in_by_its_name_alone(self):
        self.assertRaises(TypeError, Shelf, "ida", 3)


class TestBook(unittest.TestCase):
    def test_as_the_books_and_the_edition(self):
        shelf, club = Shelf("ida", weight=7), Club(7)
        deeds = [
            ("join", FIVE), ("come", "eva"), ("leave", "eva"), ("evening", ("dan", "bob", "cid"), (2, 7)),
            ("offer", ("ann", "bob"), (("ann", 1),)), ("gift", "dan", "bob", (1, 2)), ("weigh", 9),
        ]
        for edition, deed in enumerate(deeds, start=1):
            self.assertEqual(outcome(shelf.do, deed), outcome(club.do, deed))
            self.assertEqual(shelf.place(), [("ida", edition)])
            self.assertEqual(all_of(shelf.book()), all_of(club))
        there = ("dan", "bob", "cid", "ann")
        self.assertEqual(shelf.set_right(3, there), club.set_right(3, there))
        self.assertIs(shelf.back(), None)
        self.assertIs(shelf.back(many=2), None)
        club.back(3)
        self.assertEqual(all_of(shelf.book()), all_of(club))
        self.assertEqual(shelf.place(), [("ida", 10)])

    def test_a_taking_back_of_none_and_a_setting_right_of_nothing_count(self):
        shelf = small_shelf()
        before = all_of(shelf.book())
        shelf.back(0)
        self.assertEqual(shelf.place(), [("ida", 5)])
        self.assertEqual(shelf.set_right(3, ("bob", "ann")), [])
        self.assertEqual(shelf.place(), [("ida", 6)])
        self.assertEqual(all_of(shelf.book()), before)
        shelf.back(4)
        self.assertEqual((len(shelf.book()), shelf.place()), (0, [("ida", 7)]))

    def test_what_is_refused_does_not_count(self):
        shelf = Shelf("ida", weight=7)
        shelf.do(("join", FIVE))
        before = all_told(shelf)
        for deed, kind, values in refused_deeds() + [(thing, "NoDeed", {}) for thing in NO_DEEDS]:
            self.assertEqual(outcome(shelf.do, deed), ("refused", kind, values))
        self.assertEqual(all_told(shelf), before)
        for many in no_whole_numbers() + [2, -1]:
            self.assertRaises(NoBack, shelf.back, many)
        for number_of_fact in no_whole_numbers() + [0, 1, -1]:
            self.assertRaises(NoFact, shelf.set_right, number_of_fact, ("ann", "bob"))
        self.assertEqual(all_told(shelf), before)
        self.assertRaises(NoDeed, shelf.do, None)

    def test_settings_right_are_refused_as_the_books(self):
        shelf = small_shelf()
        before = all_told(shelf)
        for there in strangers() + [("ann",), ("bob", "cid"), ["ann", "bob"], ("ann", "dan")]:
            self.assertRaises(NoEvening, shelf.set_right, 3, there)
        shelf.do(("weigh", 3))
        before = all_told(shelf)
        with self.assertRaises(Astray) as caught:
            shelf.set_right(3, ("ann", "bob", "cid"))
        self.assertEqual((caught.exception.at, caught.exception.many, caught.exception.seats), (5, 2, (1, 2)))
        self.assertEqual(all_told(shelf), before)

    def test_books_and_copies_are_twins(self):
        shelf, other = small_shelf(), small_shelf("kim")
        other.do(("come", "zoe"))
        shelf.take_in(other)
        before, others = all_told(shelf), all_told(other)
        for club in (shelf.book(), shelf.copy_of("ida"), shelf.copy_of("kim"), other.book(), other.copy_of("kim")):
            club.come("yan")
            club.set_right(3, ("ann", "cid"))
            club.back(3)
            club.weigh(20)
            self.assertEqual((all_told(shelf), all_told(other)), (before, others))

    def test_lists_are_the_askers_own(self):
        shelf = small_shelf()
        before = all_told(shelf)
        for listed in (shelf.place(), shelf.together(), shelf.book().facts(), shelf.copy_of("ida").payments()):
            self.assertIs(listed.__class__, list)
            listed.clear()
            self.assertEqual(all_told(shelf), before)


class TestTakeIn(unittest.TestCase):
    def test_against_what_the_test_keeps(self):
        for seed in range(12):
            cabinet = Cabinet(seed, 2 + seed % 5)
            for turn in range(60):
                hand = cabinet.chance.choice(cabinet.hands)
                if cabinet.chance.random() < 0.65:
                    cabinet.write(self, hand)
                else:
                    other = cabinet.chance.choice([one for one in cabinet.hands if one != hand])
                    cabinet.take_in(self, hand, other)
                cabinet.check(self, hand)

    def test_all_round_in_any_order_once_or_more_often(self):
        for seed in range(20, 32):
            cabinet = Cabinet(seed, 2 + seed % 4)
            for turn in range(30):
                cabinet.write(self, cabinet.chance.choice(cabinet.hands))
                if turn % 5 == 0:
                    cabinet.take_in(self, *cabinet.chance.sample(cabinet.hands, 2))
            for turn in range(cabinet.chance.randint(1, 3)):
                pairs = list(permutations(cabinet.hands, 2))
                cabinet.chance.shuffle(pairs)
                for hand, other in pairs:
                    cabinet.take_in(self, hand, other)
            tellings = [all_told(cabinet.shelves[hand]) for hand in cabinet.hands]
            for hand, telling in zip(cabinet.hands, tellings):
                cabinet.check(self, hand)
                self.assertEqual(telling, tellings[0])

    def test_twelve_hands(self):
        cabinet = Cabinet(99, 12)
        for hand in cabinet.hands * 6:
            cabinet.write(self, hand)
        # From hand to hand and once more: each shelf has all of them then.
        for row in (cabinet.hands, cabinet.hands[::-1]):
            for other, hand in zip(row, row[1:]):
                cabinet.take_in(self, hand, other)
        for hand in cabinet.hands:
            cabinet.check(self, hand)
            self.assertEqual(len(cabinet.shelves[hand].place()), 12)
            self.assertEqual(all_told(cabinet.shelves[hand]), all_told(cabinet.shelves[cabinet.hands[0]]))

    def test_the_greater_edition_though_it_has_fewer_facts(self):
        one, other, third = Shelf("one"), small_shelf("other"), Shelf("third")
        one.take_in(other)
        self.assertEqual((one.place(), len(one.copy_of("other"))), ([("one", 0), ("other", 4)], 4))
        other.back(4)
        one.take_in(other)
        self.assertEqual((one.place(), len(one.copy_of("other"))), ([("one", 0), ("other", 5)], 0))
        other.do(("come", "ann"))
        third.take_in(other)
        third.take_in(one)
        self.assertEqual(third.place(), [("one", 0), ("other", 6), ("third", 0)])
        self.assertEqual(third.copy_of("other").facts(), [("come", "ann", 0)])
        one.take_in(third)
        self.assertEqual(one.place(), [("one", 0), ("other", 6), ("third", 0)])

    def test_a_copy_of_edition_0_is_taken_in_too(self):
        one, other = Shelf("one"), Shelf("other", weight=9)
        one.take_in(other)
        self.assertEqual(one.place(), [("one", 0), ("other", 0)])
        self.assertEqual(one.copy_of("other").moment(), (9, ()))

    def test_its_own_book_stays(self):
        one, other = small_shelf("one"), small_shelf("other")
        other.take_in(one)
        one.back(2)
        before = all_of(one.book())
        one.take_in(other)
        self.assertEqual(all_of(one.book()), before)
        self.assertEqual(one.place(), [("one", 5), ("other", 4)])
        self.assertEqual(other.place(), [("one", 4), ("other", 4)])

    def test_its_own_book_stays_though_a_greater_edition_goes_under_its_hand(self):
        kim, new = Shelf("kim"), Shelf("ida", weight=2)
        kim.take_in(small_shelf("ida"))
        new.take_in(kim)
        self.assertEqual(new.place(), [("ida", 0), ("kim", 0)])
        self.assertTrue(new.book() == Club(2) == new.copy_of("ida"))

    def test_what_is_done_since_does_not_show(self):
        one, other = Shelf("one"), small_shelf("other")
        one.take_in(other)
        before = all_told(one)
        other.do(("leave", "ann"))
        other.set_right(3, ("ann", "cid"))
        other.back(2)
        self.assertEqual(all_told(one), before)

    def test_what_is_taken_in_by_the_one_does_not_show_at_the_other(self):
        one, other, third = Shelf("one"), Shelf("other"), small_shelf("third")
        one.take_in(other)
        other.take_in(third)
        self.assertEqual(one.place(), [("one", 0), ("other", 0)])
        self.assertRaises(NoName, one.copy_of, "third")

    def test_unlike(self):
        shelf, other = small_shelf("ida"), Shelf("ida")
        third = small_shelf("kim")
        other.take_in(third)
        before = all_told(shelf)
        self.assertRaises(Unlike, shelf.take_in, other)
        self.assertRaises(Unlike, shelf.take_in, shelf)
        self.assertEqual(all_told(shelf), before)


class TestTold(unittest.TestCase):
    def test_no_name_of_a_hand_of_which_it_has_nothing(self):
        shelf = small_shelf()
        shelf.take_in(Shelf("kim"))
        for hand in no_names() + ["ann", "bob", "id", "idas", "stranger"]:
            with self.subTest(hand=hand):
                self.assertRaises(NoName, shelf.copy_of, hand)
        self.assertTrue(shelf.copy_of("ida") == shelf.book())
        self.assertTrue(shelf.copy_of("kim") == Club())

    def test_together_sorted_by_persons(self):
        shelf, other = Shelf("one", weight=7), Shelf("aab", weight=5)
        shelf.do(("join", made(7, "zoe 3, - -4, ann 1")))
        other.do(("join", made(5, "mia 1/2, zoe -3, - 5/2")))
        shelf.take_in(other)
        self.assertEqual(shelf.together(), [("ann", (1, 1)), ("mia", (1, 2)), ("zoe", (0, 1))])
        self.assertEqual(other.together(), [("mia", (1, 2)), ("zoe", (-3, 1))])
        shelf.do(("leave", "zoe"))
        self.assertEqual(shelf.together(), [("ann", (1, 1)), ("mia", (1, 2)), ("zoe", (-3, 1))])
        self.assertEqual(shelf.place(), [("aab", 1), ("one", 2)])

    def test_the_most_of_persons_that_sit_nowhere_and_in_several_books(self):
        shelf, other = Shelf("one", weight=7), Shelf("aab", weight=5)
        shelf.do(("join", made(7, "zoe 3, - -4, ann 1")))
        other.do(("join", made(5, "mia 1/2, zoe -3, - 5/2, bob 0")))
        shelf.take_in(other)
        for people, most in (
            ((), (0, 1)), (("eva",), (0, 1)), (("ann",), (7, 1)), (("zoe",), (29, 2)), (("zoe", "ann"), (29, 2)),
            (("ann", "zoe"), (29, 2)), (("mia", "zoe"), (17, 1)), (("mia", "zoe", "bob", "ann"), (29, 2)),
            (("eva", "mia"), (15, 2)),
        ):
            self.assertEqual(shelf.most_of(people), most)
        other.do(("weigh", 8))
        self.assertEqual(shelf.most_of(("mia",)), (15, 2))
        shelf.take_in(other)
        self.assertEqual(shelf.most_of(("mia",)), (12, 1))

    def test_no_name_of_anything(self):
        shelf = small_shelf()
        things = [thing for thing in strangers() if thing != ()] + [
            ["ann"], ["ann", "bob"], [], "ann", ("ann", "ann"), ("zoe", "ann", "zoe"), {"ann": 1}, {"ann"}, Flatterer(),
        ]
        for thing in things + [(name,) for name in no_names()] + [("ann", name) for name in no_names()]:
            with self.subTest(thing=thing):
                self.assertRaises(NoName, shelf.most_of, thing)

    def test_any_persons_together_owe_the_most_at_the_most(self):
        one, other = Shelf("one", weight=4), Shelf("other", weight=4)
        for shelf in (one, other):
            for deed in [("come", name) for name in PEOPLE[:4]] + [("evening", PEOPLE[:2], (4,))] * 3:
                shelf.do(deed)
        one.take_in(other)
        owes = {person: number(part) for person, part in one.together()}
        self.assertEqual(owes, {name: 2 * owed(one.book().moment())[name] for name in PEOPLE[:4]})
        for many in range(5):
            for people in combinations(PEOPLE[:4], many):
                together = sum([owes[name] for name in people], Fraction(0))
                self.assertLessEqual(abs(together), number(one.most_of(people)))


if __name__ == "__main__":
    unittest.main()
