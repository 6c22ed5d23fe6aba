"""Rows, their sums [6], the most, and where a row falls [7]."""

import unittest
from fractions import Fraction
from itertools import combinations, product

from whoserves.sums import fall, greatest_first, is_within, most, sums_ahead

FEW = ((-3, 1), (-1, 2), (0, 1), (1, 3), (1, 2), (2, 1))
LONG = ((10 ** 60, 10 ** 60 - 1), (10 ** 59, 10 ** 59 - 1), (1, 1), (-(10 ** 60), 10 ** 60 - 1), (1, 10 ** 60))


def rows():
    """All rows of a few parts, and one of parts with many figures."""
    found = [LONG]
    for many in range(5):
        found += list(product(FEW, repeat=many))
    return found


def numbers(row):
    """What the parts of a row stand for."""
    return [Fraction(above, below) for above, below in row]


def told(number):
    """The part that a Fraction stands for."""
    return (number.numerator, number.denominator)


def places_by_picking(row):
    """Greatest first, by taking out the first of the greatest again and again."""
    left = list(enumerate(numbers(row)))
    found = []
    while left:
        best = max([number for place, number in left])
        place = [place for place, number in left if number == best][0]
        found.append(place)
        left.remove((place, best))
    return found


def greatest_sum(row, many):
    """The most that any so many parts of the row come to, by trying all."""
    return max([sum(chosen, Fraction(0)) for chosen in combinations(numbers(row), many)])


class TestGreatestFirst(unittest.TestCase):
    def test_against_picking(self):
        for row in rows():
            self.assertEqual(greatest_first(row), places_by_picking(row), row)

    def test_some_as_they_are_written(self):
        self.assertEqual(greatest_first(((1, 2), (2, 3), (-1, 1), (0, 1))), [1, 0, 3, 2])
        self.assertEqual(greatest_first(((-1, 2), (-1, 3), (-2, 3))), [1, 0, 2])
        self.assertEqual(greatest_first(((5, 1),)), [0])

    def test_of_equal_ones_the_lesser_place_first(self):
        self.assertEqual(greatest_first(((1, 2),) * 12), list(range(12)))
        self.assertEqual(greatest_first(((0, 1), (1, 2), (0, 1), (1, 2))), [1, 3, 0, 2])

    def test_the_row_without_parts(self):
        self.assertEqual(greatest_first(()), [])

    def test_parts_that_differ_far_behind(self):
        row = ((10 ** 60 - 2, 10 ** 60 - 1), (10 ** 60 - 1, 10 ** 60), (10 ** 60 - 3, 10 ** 60 - 2))
        self.assertEqual(greatest_first(row), [1, 0, 2])

    def test_sixty_seats(self):
        row = tuple((place * 7 % 60, 61) for place in range(1, 60))
        self.assertEqual(greatest_first(row), places_by_picking(row))

    def test_the_list_is_the_askers_own(self):
        row = ((1, 2), (2, 3))
        found = greatest_first(row)
        self.assertIs(found.__class__, list)
        found.append(7)
        found[0] = 9
        self.assertEqual(greatest_first(row), [1, 0])
        self.assertEqual(row, ((1, 2), (2, 3)))


class TestSumsAhead(unittest.TestCase):
    def test_against_all_choices(self):
        for row in rows():
            expected = [told(greatest_sum(row, many)) for many in range(len(row) + 1)]
            self.assertEqual(sums_ahead(row), expected, row)

    def test_some_as_they_are_written(self):
        self.assertEqual(sums_ahead(((1, 2), (-1, 3), (2, 3))), [(0, 1), (2, 3), (7, 6), (5, 6)])
        self.assertEqual(sums_ahead(((-1, 1), (-2, 1))), [(0, 1), (-1, 1), (-3, 1)])

    def test_the_row_without_parts(self):
        self.assertEqual(sums_ahead(()), [(0, 1)])

    def test_the_list_is_the_askers_own(self):
        for row in ((), ((1, 2), (-1, 2))):
            found = sums_ahead(row)
            self.assertIs(found.__class__, list)
            kept = list(found)
            found.append((7, 1))
            found[0] = (9, 1)
            self.assertEqual(sums_ahead(row), kept)


class TestMost(unittest.TestCase):
    def test_all_small_ones(self):
        for weight, seats in product(range(1, 8), range(9)):
            for many in range(seats + 1):
                expected = told(Fraction(weight * many * (seats - many), 2))
                self.assertEqual(most(weight, seats, many), expected)

    def test_none_and_all_of_the_seats(self):
        for weight, seats in product((1, 2, 10 ** 29), (0, 1, 5, 60)):
            self.assertEqual(most(weight, seats, 0), (0, 1))
            self.assertEqual(most(weight, seats, seats), (0, 1))

    def test_some_as_they_are_written(self):
        self.assertEqual(most(1, 2, 1), (1, 2))
        self.assertEqual(most(7, 4, 1), (21, 2))
        self.assertEqual(most(7, 4, 2), (14, 1))
        self.assertEqual(most(10 ** 29 + 1, 60, 1), ((10 ** 29 + 1) * 59, 2))


class TestFall(unittest.TestCase):
    def test_against_all_choices(self):
        for row, weight in product(rows(), (1, 2, 3)):
            seats = len(row)
            falls = [
                many for many in range(seats + 1)
                if greatest_sum(row, many) > Fraction(weight * many * (seats - many), 2)
            ]
            self.assertEqual(fall(weight, row), falls[0] if falls else None, (weight, row))

    def test_the_edge_itself_does_not_fall(self):
        self.assertIsNone(fall(1, ((1, 2), (-1, 2))))
        self.assertIsNone(fall(3, ((3, 2), (-3, 2))))
        self.assertIsNone(fall(1, ((1, 1), (0, 1), (-1, 1))))

    def test_just_beyond_the_edge(self):
        tiny = 10 ** 50
        self.assertEqual(fall(1, ((tiny // 2 + 1, tiny), (-(tiny // 2 + 1), tiny))), 1)
        self.assertEqual(fall(3, ((3 * tiny // 2 + 1, tiny), (-(3 * tiny // 2 + 1), tiny))), 1)

    def test_the_least_number(self):
        self.assertEqual(fall(1, ((4, 1), (4, 1), (-4, 1), (-4, 1))), 1)
        self.assertEqual(fall(1, ((-2, 1), (3, 2), (3, 2), (-1, 1))), 2)
        self.assertEqual(fall(1, ((3, 4), (3, 4), (3, 4), (-9, 4))), 3)
        self.assertEqual(fall(1, ((1, 2), (1, 2))), 2)

    def test_nowhere(self):
        self.assertIsNone(fall(1, ()))
        self.assertIsNone(fall(1, ((0, 1),)))
        self.assertIsNone(fall(5, ((-100, 1), (-100, 1))))

    def test_a_row_that_comes_to_more_than_nought(self):
        self.assertEqual(fall(1, ((1, 3),)), 1)
        self.assertEqual(fall(100, ((1, 3), (0, 1), (0, 1))), 3)


class TestIsWithin(unittest.TestCase):
    def test_against_all_choices_either_way(self):
        for row, weight in product(rows(), (1, 2, 3, 8)):
            seats = len(row)
            within = sum(numbers(row), Fraction(0)) == 0
            for many in range(seats + 1):
                edge = Fraction(weight * many * (seats - many), 2)
                for chosen in combinations(numbers(row), many):
                    within = within and -edge <= sum(chosen, Fraction(0)) <= edge
            self.assertIs(is_within(weight, row), within, (weight, row))

    def test_the_edge(self):
        self.assertIs(is_within(1, ((1, 2), (-1, 2))), True)
        self.assertIs(is_within(1, ((3, 5), (-3, 5))), False)
        self.assertIs(is_within(2, ((3, 5), (-3, 5))), True)
        self.assertIs(is_within(3, ((3, 2), (-3, 2))), True)
        self.assertIs(is_within(1, ()), True)
        self.assertIs(is_within(1, ((0, 1),)), True)

    def test_a_row_that_does_not_come_to_nought(self):
        self.assertIs(is_within(9, ((-1, 2), (0, 1))), False)
        self.assertIs(is_within(9, ((1, 2), (0, 1))), False)
        self.assertIs(is_within(1, ((-1, 1),)), False)
        self.assertIs(is_within(9, ((1, 3), (1, 3), (-1, 2))), False)

    def test_sixty_seats_at_the_edge(self):
        for weight in (1, 7, 10 ** 29 + 1):
            steps = [weight * (59 - 2 * place) for place in range(60)]
            row = tuple(told(Fraction(step, 2)) for step in steps)
            self.assertIs(is_within(weight, row), True)
            wider = (told(Fraction(steps[0], 2) + Fraction(1, 60)),) + row[1:-1]
            wider += (told(Fraction(steps[-1], 2) - Fraction(1, 60)),)
            self.assertIs(is_within(weight, wider), False)
            self.assertEqual(fall(weight, wider), 1)

    def test_the_row_handed_in_stays(self):
        row = ((-1, 2), (1, 2))
        is_within(1, row)
        fall(1, row)
        self.assertEqual(row, ((-1, 2), (1, 2)))


if __name__ == "__main__":
    unittest.main()
