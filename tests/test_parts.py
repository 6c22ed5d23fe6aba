"""Parts, and how they are reckoned with [2]; Fraction reckons along."""

import unittest
from fractions import Fraction
from itertools import product
from math import gcd

from tests.things import no_whole_numbers, strangers
from whoserves.errors import ClubError, NoPart
from whoserves.parts import is_less, is_part, minus, part, plus, shared, times, total

MANY_FIGURES = (10 ** 60 - 1, 3 ** 120, -(7 ** 70), 2 ** 4000 * 5, -(6 ** 1500))
PARTS = tuple(
    (above, below) for above, below in product(range(-7, 8), range(1, 8)) if gcd(above, below) == 1
) + ((10 ** 60 - 1, 10 ** 59), (-(3 ** 120), 2 ** 190), (1, 7 ** 70), (6 ** 1500, 35 ** 900))


def told(number):
    """The part that a Fraction stands for."""
    return (number.numerator, number.denominator)


def number(one):
    """What a part stands for, without the check of parts."""
    return Fraction(one[0], one[1])


class PartCase(unittest.TestCase):
    def assertTold(self, found, fraction):
        """A part is a tuple of two ints, and nothing but that."""
        self.assertEqual(found, told(fraction))
        self.assertIs(found.__class__, tuple)
        self.assertEqual([item.__class__ for item in found], [int, int])


class TestPart(PartCase):
    def test_small_ones_of_either_sign(self):
        for above, below in product(range(-12, 13), range(-12, 13)):
            if below != 0:
                with self.subTest(above=above, below=below):
                    self.assertTold(part(above, below), Fraction(above, below))

    def test_some_as_they_are_written(self):
        self.assertEqual(part(6, 4), (3, 2))
        self.assertEqual(part(6, -4), (-3, 2))
        self.assertEqual(part(-6, -4), (3, 2))
        self.assertEqual(part(-6, 3), (-2, 1))
        self.assertEqual(part(0, 9), (0, 1))
        self.assertEqual(part(0, -9), (0, 1))

    def test_many_figures(self):
        for above, below in product(MANY_FIGURES, MANY_FIGURES):
            self.assertTold(part(above, below), Fraction(above, below))

    def test_below_left_out_by_place_and_by_name(self):
        self.assertEqual(part(7), (7, 1))
        self.assertEqual(part(-7), (-7, 1))
        self.assertEqual(part(0), (0, 1))
        self.assertEqual(part(7, 14), (1, 2))
        self.assertEqual(part(7, below=14), (1, 2))

    def test_no_part_of_what_is_no_whole_number(self):
        for thing in no_whole_numbers():
            with self.subTest(thing=thing):
                self.assertRaises(NoPart, part, thing)
                self.assertRaises(NoPart, part, thing, 2)
                self.assertRaises(NoPart, part, thing, 0)
                self.assertRaises(NoPart, part, 2, thing)
                self.assertRaises(NoPart, part, thing, thing)
                with self.assertRaises(ClubError):
                    part(0, below=thing)

    def test_no_part_of_a_below_of_nought(self):
        for above in (0, 1, -1, 10 ** 70):
            self.assertRaises(NoPart, part, above, 0)


class TestIsPart(unittest.TestCase):
    def test_pairs_of_whole_numbers(self):
        for above, below in product(range(-12, 13), range(-12, 13)):
            with self.subTest(above=above, below=below):
                self.assertIs(is_part((above, below)), below > 0 and gcd(above, below) == 1)

    def test_some_as_they_are_written(self):
        for thing in ((0, 1), (1, 1), (-3, 2), (5, 1), (10 ** 60, 10 ** 60 - 1)):
            self.assertIs(is_part(thing), True, thing)
        for thing in ((0, 2), (2, 2), (6, 4), (3, 0), (0, 0), (1, -2), (-1, -2), (10 ** 60, 10 ** 50)):
            self.assertIs(is_part(thing), False, thing)

    def test_of_anything(self):
        for thing in strangers():
            with self.subTest(thing=thing):
                self.assertIs(is_part(thing), False)
                self.assertIs(is_part((thing, 1)), False)
                self.assertIs(is_part((1, thing)), False)
                self.assertIs(is_part((1, 2, thing)), False)

    def test_a_list_is_no_tuple(self):
        self.assertIs(is_part((1, 2)), True)
        self.assertIs(is_part([1, 2]), False)

    def test_whole_numbers_alone_are_none(self):
        for thing in (0, 1, -1, 10 ** 70):
            self.assertIs(is_part(thing), False)


class TestReckoning(PartCase):
    def test_two_parts(self):
        for one, other in product(PARTS, PARTS):
            with self.subTest(one=one, other=other):
                self.assertTold(plus(one, other), number(one) + number(other))
                self.assertTold(minus(one, other), number(one) - number(other))
                self.assertIs(is_less(one, other), number(one) < number(other))

    def test_some_as_they_are_written(self):
        self.assertEqual(plus((1, 6), (1, 3)), (1, 2))
        self.assertEqual(plus((1, 2), (-1, 2)), (0, 1))
        self.assertEqual(minus((1, 3), (1, 2)), (-1, 6))
        self.assertEqual(times((5, 6), 4), (10, 3))
        self.assertEqual(times((5, 6), -6), (-5, 1))
        self.assertEqual(times((5, 6), 0), (0, 1))
        self.assertEqual(shared((4, 3), 6), (2, 9))

    def test_is_less_of_equal_ones(self):
        for one in PARTS:
            self.assertIs(is_less(one, one), False)
        self.assertIs(is_less((-1, 2), (-1, 3)), True)
        self.assertIs(is_less((-1, 3), (-1, 2)), False)

    def test_times(self):
        for one, many in product(PARTS, (0, 1, -1, 2, 6, 7, -35, 10 ** 60)):
            self.assertTold(times(one, many), number(one) * many)

    def test_shared(self):
        for one, many in product(PARTS, (1, 2, 3, 7, 60, 10 ** 60)):
            self.assertTold(shared(one, many), number(one) / many)

    def test_shared_by_no_whole_number_from_1_on(self):
        for many in no_whole_numbers() + [0, -1, -2, -(10 ** 70)]:
            with self.subTest(many=many):
                self.assertRaises(NoPart, shared, (3, 2), many)
                self.assertRaises(NoPart, shared, (0, 1), many)


class TestTotal(PartCase):
    def test_rows(self):
        for many in range(len(PARTS)):
            row = PARTS[many::5]
            self.assertTold(total(row), sum([number(one) for one in row], Fraction(0)))

    def test_an_empty_row(self):
        self.assertEqual(total(()), (0, 1))
        self.assertEqual(total((), start=(-2, 3)), (-2, 3))

    def test_start_by_its_name(self):
        self.assertEqual(total(((1, 2), (1, 3)), start=(1, 6)), (1, 1))
        self.assertEqual(total(((1, 2), (1, 3)), start=(0, 1)), (5, 6))
        self.assertEqual(total(((1, 2), (1, 3))), (5, 6))

    def test_start_is_not_handed_in_by_its_place(self):
        with self.assertRaises(TypeError):
            total(((1, 2),), (1, 6))

    def test_what_is_handed_in_stays(self):
        row = ((1, 2), (-1, 3))
        total(row, start=(5, 7))
        self.assertEqual(row, ((1, 2), (-1, 3)))
        self.assertEqual(total(()), (0, 1))


if __name__ == "__main__":
    unittest.main()
