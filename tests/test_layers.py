"""Layers of duties, and a layer's change [11]."""

import unittest
from fractions import Fraction
from itertools import combinations, product

from tests.made import evenings_of, made, no_seat_numbers, number, numbers, owed, seats_by_name, told
from tests.test_evenings import NO_THERE, order_by_picking
from tests.things import strangers
from whoserves.errors import NoDuty, NoEvening, NoSeat
from whoserves.evenings import behind
from whoserves.layers import layer_change, layers

EVENINGS = evenings_of(11, 150, most_seats=6)
FIVE = made(7, "ann -2, - 1, bob 3, cid 0, dan -2")
THERE = ("dan", "cid", "bob")


def change(moment, there, many, seats):
    """What seats owe more by a layer, by the words of 11."""
    firsts = order_by_picking(moment, there)[:many]
    more = Fraction(0)
    for person in there:
        if seats_by_name(moment)[person] in seats:
            more += Fraction(many, len(there)) - (person in firsts)
    return more


class TestLayers(unittest.TestCase):
    def test_some_as_they_are_written(self):
        self.assertEqual(layers(()), ())
        self.assertEqual(layers((4,)), ((1, 4),))
        self.assertEqual(layers((5, 3)), ((1, 2), (2, 3)))
        self.assertEqual(layers((3, 5)), ((1, 2), (2, 3)))
        self.assertEqual(layers((2, 2, 2)), ((3, 2),))
        self.assertEqual(layers((7, 2, 2, 1)), ((1, 5), (3, 1), (4, 1)))
        self.assertEqual(layers((1, 7, 7)), ((2, 6), (3, 1)))
        self.assertEqual(layers((10 ** 29, 1)), ((1, 10 ** 29 - 1), (2, 1)))

    def test_they_make_the_duties(self):
        for many in range(5):
            for duties in product((1, 2, 3, 9), repeat=many):
                found = layers(duties)
                ranks = [sum([weighs for many, weighs in found if many > rank]) for rank in range(len(duties))]
                self.assertEqual(ranks, sorted(duties, reverse=True))
                self.assertEqual(sum([weighs for many, weighs in found]), max(duties, default=0))
                self.assertEqual([many for many, weighs in found], sorted({many for many, weighs in found}))
                self.assertTrue(all(weighs > 0 for many, weighs in found))

    def test_tuples_are_told(self):
        for duties in ((), (5, 3, 3)):
            self.assertIs(layers(duties).__class__, tuple)
            for layer in layers(duties):
                self.assertIs(layer.__class__, tuple)


class TestLayerChange(unittest.TestCase):
    def test_against_the_words(self):
        for moment, there, duties in EVENINGS:
            for many in range(1, len(there) + 1):
                for size in range(len(moment[1]) + 1):
                    for seats in combinations(range(len(moment[1])), size):
                        found = layer_change(moment, there, many, seats)
                        self.assertEqual(found, told(change(moment, there, many, seats)))

    def test_the_layers_make_what_is_owed_more_behind(self):
        for moment, there, duties in EVENINGS:
            after = behind(moment, there, duties)
            for size in range(len(moment[1]) + 1):
                for seats in combinations(range(len(moment[1])), size):
                    more = sum([numbers(after)[seat] - numbers(moment)[seat] for seat in seats], Fraction(0))
                    by_layers = [
                        weighs * number(layer_change(moment, there, many, seats)) for many, weighs in layers(duties)
                    ]
                    self.assertEqual(sum(by_layers, Fraction(0)), more)

    def test_some_as_they_are_written(self):
        self.assertEqual(layer_change(FIVE, THERE, 1, (2,)), (-2, 3))
        self.assertEqual(layer_change(FIVE, THERE, 1, (4,)), (1, 3))
        self.assertEqual(layer_change(FIVE, THERE, 2, (4, 3)), (1, 3))
        self.assertEqual(layer_change(FIVE, THERE, 2, (2, 3)), (-2, 3))
        self.assertEqual(layer_change(FIVE, ("ann", "dan"), 1, (0,)), (-1, 2))

    def test_no_seats_all_seats_and_those_of_others(self):
        for many in (1, 2, 3):
            self.assertEqual(layer_change(FIVE, THERE, many, ()), (0, 1))
            self.assertEqual(layer_change(FIVE, THERE, many, (0, 1, 2, 3, 4)), (0, 1))
            self.assertEqual(layer_change(FIVE, THERE, many, (0,)), (0, 1))
            self.assertEqual(layer_change(FIVE, THERE, many, (1, 0)), (0, 1))

    def test_all_that_are_there_serve(self):
        for seats in ((), (2,), (3, 4), (0, 1, 2)):
            self.assertEqual(layer_change(FIVE, THERE, 3, seats), (0, 1))

    def test_seats_in_any_order(self):
        self.assertEqual(layer_change(FIVE, THERE, 1, (4, 0, 3)), layer_change(FIVE, THERE, 1, (0, 3, 4)))

    def test_no_evening_of_anything(self):
        for there in strangers() + list(NO_THERE):
            for many, seats in ((1, (0,)), (0, (0,)), (1, (9,)), (None, None)):
                with self.subTest(there=there, many=many, seats=seats):
                    self.assertRaises(NoEvening, layer_change, FIVE, there, many, seats)

    def test_no_duty_of_anything(self):
        for many in strangers() + [0, -1, 4, 5, 10 ** 40, "1", (1, 1)]:
            for seats in ((0,), (9,), [0], None):
                with self.subTest(many=many, seats=seats):
                    self.assertRaises(NoDuty, layer_change, FIVE, THERE, many, seats)

    def test_no_seat_of_anything(self):
        for seats in no_seat_numbers(5):
            with self.subTest(seats=seats):
                self.assertRaises(NoSeat, layer_change, FIVE, THERE, 2, seats)

    def test_a_layer_may_be_of_more_than_the_weight(self):
        moment = made(1, "ann 0, bob 0, cid 0")
        self.assertEqual(layer_change(moment, tuple(owed(moment)), 2, (2,)), (2, 3))

    def test_what_is_handed_in_stays(self):
        moment, there, seats, duties = made(7, "ann -2, - 1, bob 3, cid 0, dan -2"), ("dan", "bob"), (4, 0), (1, 3)
        layer_change(moment, there, 1, seats)
        layers(duties)
        self.assertEqual((moment, there, seats, duties), (FIVE, ("dan", "bob"), (4, 0), (1, 3)))


if __name__ == "__main__":
    unittest.main()
