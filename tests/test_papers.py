"""The paper of a moment, and where a paper holds, read by itself [17], [4]."""

import unittest
from fractions import Fraction
from itertools import permutations, product

from tests.made import TINY, first_fall, made, number, numbers, random_moments, told, widest
from tests.things import Flatterer, strangers
from whoserves.papers import is_paper, paper_holds, paper_of

MOMENTS = random_moments(17, 150)
SMALL = (
    made(3), made(3, "- 0"), made(1, "ann 1/2, - -1/2"), made(2, "a 0, b 0, c 0"), made(3, "a -1, b 2, c -1"),
    made(7, "ann -2, - 1, bob 3, cid 0, dan -2"), made(2, "a -1, b 1, c -1, d 1"),
)
EXTREME = [(weight, tuple(zip("abcde", map(told, widest(weight, many))))) for weight in (1, 2, 7) for many in range(6)]


def paper_by(weight, row):
    """The paper of seats that owe these numbers, by the words of 17."""
    places = sorted(range(len(row)), key=lambda place: (-row[place], place))
    found, together = [], Fraction(0)
    for many, place in enumerate(places, start=1):
        together += row[place]
        most = Fraction(weight * many * (len(row) - many), 2)
        found.append((place, told(row[place]), told(together), told(most)))
    return found


def truly_holds(weight, paper):
    """Whether a list of rows of numbers and parts holds, each condition of 17 by itself."""
    many = len(paper)
    owes = [number(line[1]) for line in paper]
    ahead = [(-number(line[1]), line[0]) for line in paper]
    sums = [number(line[2]) for line in paper]
    mosts = [Fraction(weight * k * (many - k), 2) for k in range(1, many + 1)]
    return (
        sorted(line[0] for line in paper) == list(range(many)) and ahead == sorted(ahead)
        and sums == [sum(owes[:k], Fraction(0)) for k in range(1, many + 1)]
        and [number(line[3]) for line in paper] == mosts
        and all(one <= most for one, most in zip(sums, mosts)) and sums[-1:] in ([], [0])
    )


def with_line(paper, at, line):
    """The paper with another row at this place."""
    return paper[:at] + [line] + paper[at + 1:]


def with_thing(paper, at, place, thing):
    """The paper with another thing in one row."""
    return with_line(paper, at, paper[at][:place] + (thing,) + paper[at][place + 1:])


def no_numbers_of_seats(paper, at):
    """Things for a seat's number that are another one, or none."""
    seat = paper[at][0]
    others = [seat - 1, seat + 1, -1, len(paper), -seat - 1, 10 ** 40, str(seat), (seat,), (seat, 1), Flatterer()]
    return others + [thing for thing in strangers() if isinstance(thing, bool) or thing != seat]


def other_parts(one):
    """Things for a part that are another one, or none; 1 and True are alike, but not as they are shown."""
    worth = number(one)
    others = [told(worth + TINY), told(worth - TINY), told(worth + 1), told(worth - 1)]
    if worth:
        others.append(told(-worth))
    forms = [(one[0] * 2, one[1] * 2), (-one[0], -one[1]), list(one), one[0], str(one[0]), one + (1,), one[:1], [one]]
    forms += [(one[0], str(one[1])), (Flatterer(), one[1]), (one[0], Flatterer()), (one[0], 0), Flatterer()]
    if one[1] == 1:
        forms += [(one[0], True), worth]
    if one[0] in (0, 1):
        forms.append((bool(one[0]), one[1]))
    return [thing for thing in others + forms + strangers() if repr(thing) != repr(one)]


class TestPaperOf(unittest.TestCase):
    def test_against_the_words(self):
        for moment in MOMENTS + list(SMALL) + EXTREME:
            found = paper_of(moment)
            self.assertEqual(found, paper_by(moment[0], numbers(moment)))
            self.assertIs(found.__class__, list)
            self.assertTrue(all(line.__class__ is tuple for line in found))

    def test_some_as_they_are_written(self):
        self.assertEqual(paper_of(made(3)), [])
        self.assertEqual(paper_of(made(3, "ann 0")), [(0, (0, 1), (0, 1), (0, 1))])
        self.assertEqual(paper_of(made(3, "ann -1, - 3/2, bob -1/2")), [
            (1, (3, 2), (3, 2), (3, 1)), (2, (-1, 2), (1, 1), (3, 1)), (0, (-1, 1), (0, 1), (0, 1)),
        ])
        self.assertEqual(paper_of(made(1, "a 0, b 0, c 0")), [
            (0, (0, 1), (0, 1), (1, 1)), (1, (0, 1), (0, 1), (1, 1)), (2, (0, 1), (0, 1), (0, 1)),
        ])

    def test_the_list_is_the_askers_own(self):
        moment = made(3, "ann -1, - 3/2, bob -1/2")
        paper_of(moment).clear()
        self.assertEqual(len(paper_of(moment)), 3)


class TestPaperHolds(unittest.TestCase):
    def test_the_paper_of_a_moment_holds_by_its_weight(self):
        for moment in MOMENTS + list(SMALL) + EXTREME:
            self.assertIs(paper_holds(moment[0], paper_of(moment)), True)
            self.assertIs(paper_holds(moment[0], paper_by(moment[0], numbers(moment))), True)

    def test_no_other_weight(self):
        for moment in MOMENTS + list(SMALL):
            for weight in (1, moment[0] - 1, moment[0] + 1, 10 * moment[0]):
                if 1 <= weight != moment[0]:
                    # The mosts of none, and of all seats, are nought by each weight.
                    self.assertIs(paper_holds(weight, paper_of(moment)), len(moment[1]) <= 1)

    def test_the_mosts_of_another_weight_hold_where_no_sum_is_greater(self):
        held = 0
        for moment in MOMENTS + list(SMALL):
            for weight in (1, 2, moment[0] - 1, moment[0] + 1):
                if weight >= 1:
                    holds = first_fall(weight, numbers(moment)) is None
                    self.assertIs(paper_holds(weight, paper_by(weight, numbers(moment))), holds)
                    held += holds
        self.assertGreater(held, 50)

    def test_no_row_beyond(self):
        for weight, row in product((1, 2, 5), ((1, -1), (Fraction(5, 2), Fraction(-5, 2)), (2, 2, -4), (3, 0, -3))):
            row = [Fraction(one) for one in row]
            self.assertIs(paper_holds(weight, paper_by(weight, row)), first_fall(weight, row) is None)

    def test_a_most_just_met_and_just_passed(self):
        for weight, many in product((1, 3, 10 ** 29), (2, 3, 5)):
            row = widest(weight, many)[::-1]
            self.assertIs(paper_holds(weight, paper_by(weight, row)), True)
            for place in range(many - 1):
                passed = list(row)
                passed[place] += TINY
                passed[place + 1] -= TINY
                self.assertIs(paper_holds(weight, paper_by(weight, passed)), False)
                passed[place] -= 2 * TINY
                passed[place + 1] += 2 * TINY
                self.assertIs(paper_holds(weight, paper_by(weight, passed)), True)

    def test_a_last_sum_that_is_not_nought(self):
        for row in ((TINY,), (-TINY,), (1,), (-1,), (1, 0), (-1, 0), (0, TINY, 0), (-TINY, -TINY, 0), (5, -2, -2)):
            row = [Fraction(one) for one in row]
            self.assertIs(paper_holds(100, paper_by(100, row)), False)

    def test_each_thing_of_each_row_spoilt(self):
        for moment in SMALL + tuple(MOMENTS[:8]):
            paper = paper_of(moment)
            for at in range(len(paper)):
                for thing in no_numbers_of_seats(paper, at):
                    self.assertIs(paper_holds(moment[0], with_thing(paper, at, 0, thing)), False, (at, thing))
                for place in (1, 2, 3):
                    for thing in other_parts(paper[at][place]):
                        spoilt = with_thing(paper, at, place, thing)
                        self.assertIs(paper_holds(moment[0], spoilt), False, (at, place, thing))

    def test_another_row_of_parts_is_asked_condition_by_condition(self):
        parts = [told(one) for one in (0, 1, -1, Fraction(1, 2), Fraction(-1, 2))]
        held = 0
        for moment in SMALL:
            paper = paper_of(moment)
            for at in range(len(paper)):
                for seat, place, one in product(range(-1, len(paper) + 1), (1, 2, 3), parts):
                    spoilt = with_thing(with_thing(paper, at, 0, seat), at, place, one)
                    holds = truly_holds(moment[0], spoilt)
                    self.assertIs(paper_holds(moment[0], spoilt), holds)
                    held += holds
        self.assertGreater(held, 10)

    def test_rows_exchanged(self):
        for moment in SMALL:
            paper = paper_of(moment)
            for order in permutations(paper):
                self.assertIs(paper_holds(moment[0], list(order)), list(order) == paper)

    def test_equal_ones_by_the_lesser_seat(self):
        paper = paper_of(made(2, "a 1, b 1, c -2"))
        self.assertIs(paper_holds(2, paper), True)
        first, second, third = paper
        self.assertIs(paper_holds(2, [(1,) + first[1:], (0,) + second[1:], third]), False)

    def test_a_row_twice_or_missing(self):
        for moment in SMALL:
            paper = paper_of(moment)
            for at in range(len(paper)):
                self.assertIs(paper_holds(moment[0], paper[:at + 1] + paper[at:]), False)
                # Nothing at all is the paper of no seats.
                self.assertIs(paper_holds(moment[0], paper[:at] + paper[at + 1:]), len(paper) == 1)

    def test_a_seat_twice_where_all_else_is_right(self):
        paper = paper_of(made(2, "a 0, b 0, c 0"))
        for seats in product(range(-1, 4), repeat=3):
            spoilt = [(seat,) + line[1:] for seat, line in zip(seats, paper)]
            self.assertIs(paper_holds(2, spoilt), seats == (0, 1, 2))

    def test_other_forms(self):
        for moment in SMALL:
            paper = paper_of(moment)
            self.assertIs(paper_holds(moment[0], tuple(paper)), False)
            self.assertIs(paper_holds(moment[0], {line[0]: line for line in paper}), False)
            for at, line in enumerate(paper):
                for other in (list(line), line[:3], line + (line[3],), line[:3] + (line[3], 0), (line,), [line], ()):
                    self.assertIs(paper_holds(moment[0], with_line(paper, at, other)), False)
                for other in strangers() + [Flatterer()]:
                    self.assertIs(paper_holds(moment[0], with_line(paper, at, other)), False)

    def test_of_anything(self):
        for thing in strangers() + [Flatterer(), 0, 1, (((0, (0, 1), (0, 1), (0, 1)),),)]:
            self.assertIs(paper_holds(3, thing), thing.__class__ is list and thing == [])
        for thing in strangers() + [Flatterer(), 0, 5, "paper"]:
            self.assertIs(paper_holds(3, [thing]), False)


class TestIsPaper(unittest.TestCase):
    def test_its_own_and_no_other_one(self):
        others = [made(3, "bob 0"), made(3, "a -1, b -1, c 2"), made(4, "a -1, b 2, c -1")]
        moments = list(SMALL) + MOMENTS[:40] + others
        for moment, other in product(moments, moments):
            alike = paper_by(moment[0], numbers(moment)) == paper_by(other[0], numbers(other))
            self.assertIs(is_paper(moment, paper_of(other)), alike)

    def test_a_paper_that_holds_by_the_weight_and_is_another_moments(self):
        moment, other = made(3, "a -1, b 2, c -1"), made(3, "a -1, b -1, c 2")
        self.assertIs(paper_holds(3, paper_of(other)), True)
        self.assertIs(is_paper(moment, paper_of(other)), False)
        self.assertIs(is_paper(moment, paper_of(made(3))), False)
        self.assertIs(is_paper(made(3), paper_of(moment)), False)

    def test_persons_are_not_told_by_it(self):
        self.assertIs(is_paper(made(3, "ann 1, - -1"), paper_of(made(3, "- 1, bob -1"))), True)

    def test_spoilt(self):
        for moment in SMALL:
            paper = paper_of(moment)
            self.assertIs(is_paper(moment, tuple(paper)), False)
            for at, line in enumerate(paper):
                self.assertIs(is_paper(moment, with_line(paper, at, list(line))), False)
                for thing in no_numbers_of_seats(paper, at):
                    self.assertIs(is_paper(moment, with_thing(paper, at, 0, thing)), False)
                for place in (1, 2, 3):
                    for thing in other_parts(line[place]):
                        self.assertIs(is_paper(moment, with_thing(paper, at, place, thing)), False)

    def test_of_anything(self):
        for moment in SMALL:
            for thing in strangers() + [Flatterer(), moment, moment[1], list(moment[1])]:
                truly = thing.__class__ is list and thing == [] and not moment[1]
                self.assertIs(is_paper(moment, thing), truly)

    def test_what_is_handed_in_stays(self):
        moment = made(3, "a -1, b 2, c -1")
        paper = paper_of(moment)
        self.assertIs(is_paper(moment, paper) and paper_holds(3, paper), True)
        self.assertEqual(paper, paper_by(3, [-1, 2, -1]))


if __name__ == "__main__":
    unittest.main()
