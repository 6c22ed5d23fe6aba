"""The voucher of an evening for some seats, where one holds, and what it vouches [18], [19], [4]."""

import unittest
from fractions import Fraction
from itertools import combinations, product
from random import Random

from tests.made import TINY, evenings_of, made, no_seat_numbers, number, numbers, owed, row_serving, seats_by_name, told
from tests.test_evenings import NO_DUTIES, NO_THERE, order_by_picking
from tests.test_papers import other_parts
from tests.things import Flatterer, no_whole_numbers, strangers
from whoserves.errors import NoDuty, NoEvening, NoSeat
from whoserves.evenings import behind
from whoserves.vouchers import voucher_holds, voucher_of, vouched

EVENINGS = evenings_of(18, 120, most_seats=6)
FIVE = made(7, "ann -2, - 1, bob 3, cid 0, dan -2")
THERE = ("dan", "cid", "bob")
ROW = (2, 1, 1, (0, 1), (3, 1), (1, 2))
PLAIN = (6, 3, (1, 1), (ROW, (1, 0, 2, (1, 1), (2, 1), (0, 1))))


def most(weight, seats, many):
    """The most, as a number."""
    return Fraction(weight * many * (seats - many), 2)


def seats_chosen(many):
    """All choices of so many seats."""
    return [seats for size in range(many + 1) for seats in combinations(range(many), size)]


def layers_by(duties):
    """The layers of duties: for each rank by how much the duty is greater than the next one."""
    ranked = sorted(duties, reverse=True) + [0]
    steps = [(rank, ranked[rank - 1] - ranked[rank]) for rank in range(1, len(ranked))]
    return [(rank, weighs) for rank, weighs in steps if weighs]


def voucher_by(moment, there, duties, seats):
    """The voucher by the words of 18."""
    row, by_name = numbers(moment), seats_by_name(moment)
    order = [by_name[person] for person in order_by_picking(moment, there)]
    together = sum([row[seat] for seat in seats], Fraction(0))
    rows = []
    for many, weighs in layers_by(duties):
        firsts = order[:many]
        a = [seat for seat in seats if seat in order and seat not in firsts]
        b = [seat for seat in firsts if seat not in seats]
        change = sum([Fraction(many, len(order)) - (seat in firsts) for seat in seats if seat in order], Fraction(0))
        less, more = together - sum([row[seat] for seat in a]), together + sum([row[seat] for seat in b])
        rows.append((weighs, len(a), len(b), told(less), told(more), told(change)))
    return (len(row), len(seats), told(together), tuple(rows))


def truly_holds(weight, voucher):
    """Whether a tuple of whole numbers and parts holds, each condition of 19 by itself."""
    n, k, owes, rows = voucher
    s = number(owes)
    if not 0 <= k <= n or s > most(weight, n, k) or sum(line[0] for line in rows) > weight:
        return False
    for weighs, a, b, less, more, change in rows:
        if weighs < 1 or not 0 <= a <= k or not 0 <= b <= n - k:
            return False
        if number(less) > most(weight, n, k - a) or number(more) > most(weight, n, k + b):
            return False
        if b * (s - number(less)) > a * (number(more) - s) or 2 * number(change) > a * b:
            return False
    return True


def spoilt(voucher, place, thing):
    """The voucher with another thing at a place."""
    return voucher[:place] + (thing,) + voucher[place + 1:]


def spoilt_row(voucher, at, place, thing):
    """The voucher with another thing at a place of a row."""
    rows = voucher[3]
    return spoilt(voucher, 3, spoilt(rows, at, spoilt(rows[at], place, thing)))


def random_voucher(chance):
    """A voucher of few seats by small numbers, of which many hold."""
    weight, n = chance.randint(1, 5), chance.randint(0, 6)
    k = chance.randint(0, n)

    def around(bound):
        return told(bound - Fraction(chance.choice((0, 0, 0, 1, 2, 3, 5, -1)), chance.choice((1, 2, 3))))

    rows = []
    for turn in range(chance.randint(0, 3)):
        a, b = chance.randint(0, k), chance.randint(0, n - k)
        bounds = (most(weight, n, k - a), most(weight, n, k + b), Fraction(a * b, 2))
        rows.append((chance.randint(1, 2), a, b) + tuple(around(bound) for bound in bounds))
    return weight, (n, k, around(most(weight, n, k)), tuple(rows))


class TestVoucherOf(unittest.TestCase):
    def test_against_the_words(self):
        for moment, there, duties in EVENINGS:
            for seats in seats_chosen(len(moment[1])):
                found = voucher_of(moment, there, duties, seats)
                self.assertEqual(found, voucher_by(moment, there, duties, seats))
                self.assertEqual(voucher_of(moment, there[::-1], duties[::-1], seats[::-1]), found)

    def test_some_as_they_are_written(self):
        self.assertEqual(voucher_of(FIVE, THERE, (7, 2), (2, 4)), (5, 2, (1, 1), (
            (5, 1, 0, (3, 1), (1, 1), (-1, 3)), (2, 1, 1, (3, 1), (1, 1), (1, 3)),
        )))
        self.assertEqual(voucher_of(FIVE, THERE, (3, 3), (0, 1, 4)), (5, 3, (-3, 1), (
            (3, 1, 2, (-1, 1), (0, 1), (2, 3)),
        )))

    def test_no_seats_all_seats_and_seats_of_those_not_there(self):
        self.assertEqual(voucher_of(FIVE, THERE, (3,), ()), (5, 0, (0, 1), ((3, 0, 1, (0, 1), (3, 1), (0, 1)),)))
        everyone = voucher_of(FIVE, THERE, (3,), (0, 1, 2, 3, 4))
        self.assertEqual(everyone, (5, 5, (0, 1), ((3, 2, 0, (2, 1), (0, 1), (0, 1)),)))
        apart = voucher_of(FIVE, THERE, (3,), (1, 0))
        self.assertEqual(apart, (5, 2, (-1, 1), ((3, 0, 1, (-1, 1), (2, 1), (0, 1)),)))

    def test_no_duties(self):
        for seats in seats_chosen(5):
            together = sum([numbers(FIVE)[seat] for seat in seats], Fraction(0))
            self.assertEqual(voucher_of(FIVE, THERE, (), seats), (5, len(seats), told(together), ()))

    def test_tuples_are_told(self):
        found = voucher_of(FIVE, THERE, (7, 2), (2, 4))
        self.assertEqual([found.__class__, found[3].__class__, found[3][0].__class__], [tuple] * 3)

    def test_refusals_in_their_order(self):
        for there in NO_THERE:
            for duties, seats in (((7, 2), (2, 4)), ((8,), (2, 4)), ((7,), (5,)), ([7], [5]), (None, None)):
                self.assertRaises(NoEvening, voucher_of, FIVE, there, duties, seats)
        for duties in NO_DUTIES:
            for seats in ((), (2, 4), (5,), [2], None):
                self.assertRaises(NoDuty, voucher_of, FIVE, THERE, duties, seats)
        for seats in no_seat_numbers(5):
            self.assertRaises(NoSeat, voucher_of, FIVE, THERE, (7, 2), seats)
            self.assertRaises(NoSeat, voucher_of, FIVE, THERE, (), seats)

    def test_each_thing_for_those_there_duties_and_seats(self):
        for thing in strangers() + [Flatterer()]:
            self.assertRaises(NoEvening, voucher_of, FIVE, thing, (7,), (2,))
            if thing.__class__ is not tuple:
                self.assertRaises(NoDuty, voucher_of, FIVE, THERE, thing, (2,))
                self.assertRaises(NoSeat, voucher_of, FIVE, THERE, (7,), thing)
            self.assertRaises(NoSeat, voucher_of, FIVE, THERE, (7,), (2, thing))


class TestVoucherHolds(unittest.TestCase):
    def test_that_of_an_evening_holds_by_its_weight(self):
        for moment, there, duties in EVENINGS:
            for seats in seats_chosen(len(moment[1])):
                voucher = voucher_of(moment, there, duties, seats)
                self.assertIs(voucher_holds(moment[0], voucher), True)

    def test_of_many_seats(self):
        for moment, there, duties in evenings_of(19, 12, most_seats=25):
            chance = Random(len(there))
            for turn in range(20):
                seats = chance.sample(range(len(moment[1])), chance.randint(0, len(moment[1])))
                voucher = voucher_of(moment, there, duties, tuple(seats))
                self.assertEqual(voucher, voucher_by(moment, there, duties, seats))
                self.assertIs(voucher_holds(moment[0], voucher), True)

    def test_numbers_of_any_kind_condition_by_condition(self):
        chance = Random(190)
        held = 0
        for turn in range(6000):
            weight, voucher = random_voucher(chance)
            holds = truly_holds(weight, voucher)
            held += holds
            self.assertIs(voucher_holds(weight, voucher), holds, (weight, voucher))
            if holds:
                self.assertLessEqual(number(vouched(voucher)), most(weight, *voucher[:2]))
        self.assertTrue(1000 < held < 5000, held)

    def test_numbers_that_no_evening_has(self):
        self.assertIs(voucher_holds(3, PLAIN), True)
        for voucher in (
            (0, 0, (0, 1), ()), (9, 4, (-10 ** 9, 1), ()), (10 ** 40, 10 ** 39, (1, 7), ()),
            (1, 1, (0, 1), ((1, 1, 0, (0, 1), (0, 1), (-100, 1)),)),
            (2, 1, (-50, 1), ((3, 0, 0, (-50, 1), (-50, 1), (0, 1)),)),
            (2, 1, (0, 1), ((1, 1, 1, (0, 1), (0, 1), (1, 2)),) * 3),
            (4, 2, (0, 1), ((1, 2, 2, (0, 1), (0, 1), (2, 1)), (1, 0, 0, (6, 1), (-9, 7), (-1, 3)))),
        ):
            self.assertTrue(truly_holds(3, voucher))
            self.assertIs(voucher_holds(3, voucher), True, voucher)

    def test_each_bound_just_met_and_just_passed(self):
        self.assertIs(voucher_holds(3, (6, 3, (27, 2), ())), True)
        self.assertIs(voucher_holds(3, (6, 3, told(Fraction(27, 2) + TINY), ())), False)
        # Six seats, three of them these: what they owe, and the row, is met by each bound but that of s.
        met = (6, 3, (12, 1), ((3, 1, 1, (12, 1), (12, 1), (1, 2)),))
        self.assertIs(voucher_holds(3, met), True)
        for place, bound in ((3, 12), (4, 12), (5, Fraction(1, 2))):
            self.assertIs(voucher_holds(3, spoilt_row(met, 0, place, told(bound + TINY))), False)
        self.assertIs(voucher_holds(3, spoilt_row(met, 0, 5, told(Fraction(1, 2) - TINY))), True)
        self.assertIs(voucher_holds(3, spoilt_row(met, 0, 0, 4)), False)
        self.assertIs(voucher_holds(2, spoilt_row(met, 0, 0, 2)), False)

    def test_all_rows_together_weigh_at_most_the_weight(self):
        row = (0, 0, (0, 1), (0, 1), (0, 1))
        for weights in product((1, 2, 3), repeat=3):
            voucher = (2, 1, (0, 1), tuple((weighs,) + row for weighs in weights))
            for weight in range(1, 11):
                self.assertIs(voucher_holds(weight, voucher), sum(weights) <= weight)

    def test_how_many_rest_and_how_many_others_serve(self):
        for n in range(5):
            for k in range(n + 1):
                for a, b in product(range(-1, 6), repeat=2):
                    voucher = (n, k, (0, 1), ((1, a, b, (0, 1), (0, 1), (-9, 1)),))
                    self.assertIs(voucher_holds(1, voucher), 0 <= a <= k and 0 <= b <= n - k)
                    # Far below nought no most is passed: what is asked is how many there are.
                    voucher = (n, k, (-99, 1), ((1, a, b, (-99, 1), (-99, 1), (-9, 1)),))
                    self.assertIs(voucher_holds(1, voucher), 0 <= a <= k and 0 <= b <= n - k)

    def test_how_many_seats_are_these(self):
        for n, k in product(range(-3, 6), repeat=2):
            self.assertIs(voucher_holds(2, (n, k, (-9, 1), ())), 0 <= k <= n)

    def test_the_inequality_of_averages(self):
        for a, b in product(range(4), repeat=2):
            for less, more in product(range(-3, 4), repeat=2):
                for s in (-1, 0, 2):
                    voucher = (8, 4, (s, 1), ((1, a, b, (less, 1), (more, 1), (-9, 1)),))
                    self.assertIs(voucher_holds(9, voucher), b * (s - less) <= a * (more - s))
        close = (8, 4, (0, 1), ((1, 2, 3, (-2, 1), (3, 1), (3, 1)),))
        self.assertIs(voucher_holds(9, close), True)
        self.assertIs(voucher_holds(9, spoilt_row(close, 0, 4, told(3 - TINY))), False)
        self.assertIs(voucher_holds(9, spoilt_row(close, 0, 3, told(-2 - TINY))), False)
        self.assertIs(voucher_holds(9, spoilt(close, 2, told(TINY))), False)

    def test_twice_the_change(self):
        for a, b in product(range(4), repeat=2):
            for halves in range(-3, 12):
                voucher = (8, 4, (0, 1), ((1, a, b, (0, 1), (0, 1), told(Fraction(halves, 2))),))
                self.assertIs(voucher_holds(9, voucher), halves <= a * b)

    def test_each_number_spoilt(self):
        numbers_spoilt = [thing for thing in no_whole_numbers() if thing.__class__ is not int] + [Flatterer(), "3"]
        for thing in numbers_spoilt:
            for place in (0, 1):
                self.assertIs(voucher_holds(3, spoilt(PLAIN, place, thing)), False)
            for at, place in product((0, 1), (0, 1, 2)):
                self.assertIs(voucher_holds(3, spoilt_row(PLAIN, at, place, thing)), False)
        for weighs in (0, -1, -2):
            self.assertIs(voucher_holds(3, spoilt_row(PLAIN, 1, 0, weighs)), False)
        self.assertIs(voucher_holds(4, spoilt_row(PLAIN, 0, 0, True)), False)
        self.assertIs(voucher_holds(3, spoilt_row(PLAIN, 1, 1, False)), False)

    def test_each_part_spoilt(self):
        for thing in self.no_parts(PLAIN[2]):
            self.assertIs(voucher_holds(3, spoilt(PLAIN, 2, thing)), False, thing)
        for at, place in product((0, 1), (3, 4, 5)):
            for thing in self.no_parts(PLAIN[3][at][place]):
                self.assertIs(voucher_holds(3, spoilt_row(PLAIN, at, place, thing)), False, thing)

    def no_parts(self, one):
        """Things that are no parts, some of them much like this one."""
        return [thing for thing in other_parts(one) if repr(thing) not in map(repr, self.parts_among(one))]

    def parts_among(self, one):
        """Those of the other things that are parts all the same."""
        worth = number(one)
        return [told(other) for other in (worth + TINY, worth - TINY, worth + 1, worth - 1, -worth)]

    def test_other_forms(self):
        n, k, owes, rows = PLAIN
        for thing in (
            list(PLAIN), PLAIN[:3], PLAIN + (1,), (n, k, owes, list(rows)), (n, k, owes, rows[0]), (PLAIN,),
            (n, k, owes, (list(rows[0]), rows[1])), (n, k, owes, (rows[0][:5], rows[1])), (k, n, owes, rows),
            (n, k, owes, (rows[0] + (1,), rows[1])), (n, k, owes, (rows,)), (n, k, owes, None), (n, k, owes, {}),
            (n, k, rows, owes), (n, owes, k, rows), ((n, k, owes), rows), (n, k, owes, rows + ((),)),
        ):
            self.assertIs(voucher_holds(3, thing), False, thing)

    def test_of_anything(self):
        for thing in strangers() + [Flatterer(), 0, 4, (0, 0, 0, 0), ((0, 1),) * 4]:
            self.assertIs(voucher_holds(3, thing), False)
            self.assertIs(voucher_holds(3, spoilt(PLAIN, 3, (thing,))), False)
            if thing != ():
                self.assertIs(voucher_holds(3, spoilt(PLAIN, 3, thing)), False)
        self.assertIs(voucher_holds(3, spoilt(PLAIN, 3, ())), True)


class TestVouched(unittest.TestCase):
    def test_what_the_seats_owe_behind(self):
        for moment, there, duties in EVENINGS:
            row = numbers(behind(moment, there, duties))
            own = row_serving(moment, there, list(zip(order_by_picking(moment, there), sorted(duties)[::-1])))
            self.assertEqual(row, own)
            for seats in seats_chosen(len(row)):
                found = number(vouched(voucher_of(moment, there, duties, seats)))
                self.assertEqual(found, sum([own[seat] for seat in seats], Fraction(0)))
                self.assertLessEqual(found, most(moment[0], len(row), len(seats)))

    def test_some_as_they_are_written(self):
        self.assertEqual(vouched(PLAIN), (2, 1))
        self.assertEqual(vouched((0, 0, (0, 1), ())), (0, 1))
        self.assertEqual(vouched((4, 2, (-1, 3), ())), (-1, 3))
        self.assertEqual(vouched(voucher_of(FIVE, THERE, (7, 2), (2, 4))), (0, 1))
        self.assertEqual(owed(behind(FIVE, THERE, (7, 2)))["bob"], -1)
        self.assertEqual(vouched(voucher_of(FIVE, THERE, (7, 2), (2,))), (-1, 1))


if __name__ == "__main__":
    unittest.main()
