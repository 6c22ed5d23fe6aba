"""The desk: its rows, what it answers, what is no row [30]."""

import unittest
from fractions import Fraction
from random import Random

from tests.ledger import Ledger, Refusal, State, random_deed, random_right
from tests.made import made, no_names, no_weights, number, told
from tests.test_clubs import all_of
from tests.test_momenttexts import text_by
from tests.things import Flatterer, strangers
from whoserves.clubs import Club
from whoserves.desk import Desk
from whoserves.errors import NoRow, NoWeight

NO_NUMBERS = (
    "05", "00", "+5", "-5", "-0", "5.0", "5/1", "1/2", "a", "five", "5a", "0x5", "1_0", "\u0665", "\uff15", "5\n",
    "\t5", "", "-", ":", "5,", "1e3", "None", "True",
)
NO_NAMES = [name for name in no_names() if isinstance(name, str) and " " not in name.strip()]
NO_PARTS = (
    "2/4", "0/1", "5/1", "0/5", "-0", "+1", "1/-2", "-1/-2", "1/0", "01", "1/02", "1 /2", "/2", "1/", "1.5", "a", "-",
    "", ":", "1//2", "1/2/3", "1/2\n", "(1,2)",
)


def desk_of_three():
    """A desk at which ann, bob and cid sit, by weight 6, with an evening in its history: fact 3."""
    desk = Desk(weight=6)
    for row in ("come ann", "come bob", "come cid", "evening ann bob : 6"):
        desk.take(row)
    return desk


def part_by(one):
    """The text of a number."""
    return str(Fraction(one))


class Clerk:
    """Rows of words for a desk, and what is to be answered by a ledger."""

    def __init__(self, weight):
        self.ledger = Ledger(weight)

    def state(self):
        return self.ledger.states()[-1]

    def pairs(self, done):
        return " ".join(f"{name} {duty}" for name, duty in done) or "-"

    def text_of(self, deed):
        """The row of a deed, or None where there is none."""
        word, *things = deed
        if word in ("come", "leave"):
            return f"{word} {things[0]}" if things[0].islower() else None
        if word == "evening":
            return " ".join(["evening", *things[0], ":", *map(str, things[1])])
        if word == "offer":
            return " ".join(["offer", *things[0], ":"] + [f"{name} {duty}" for name, duty in things[1]])
        if word == "gift":
            return f"gift {things[0]} {things[1]} {part_by(number(things[2]))}"
        return f"weigh {things[0]}" if word == "weigh" else None

    def answer_of(self, deed):
        """What is answered to a deed's row."""
        telling = self.ledger.do(deed)
        if deed[0] == "come":
            return f"{telling[0]} {part_by(number(telling[1]))}"
        if deed[0] == "leave":
            return part_by(number(telling))
        return self.pairs(telling) if deed[0] == "evening" else "done"

    def kitty(self):
        return sum([owes for name, owes in zip(self.state().names, self.state().row) if not name], Fraction(0))

    def sums(self):
        row = sorted(self.state().row, reverse=True)
        return " ".join(part_by(sum(row[:many], Fraction(0))) for many in range(len(row) + 1))

    def payments(self):
        paid = [f"{at} {name} {part_by(number(part))}" for at, name, part in self.ledger.payments()]
        return " ".join(paid) or "-"

    def would(self, there, duties):
        copy = Ledger(self.ledger.weight)
        copy.facts = list(self.ledger.facts)
        return self.pairs(copy.do(("evening", there, duties)))

    def back(self, many):
        self.ledger.back(many)
        return "done"


class TestWalks(unittest.TestCase):
    def step(self, chance, desk, clerk):
        """One row, or none, and what is answered to it; the word and the answer."""
        deed = random_deed(chance, clerk.state(), most_seats=chance.choice((3, 8)))
        row, answer, given = clerk.text_of(deed), clerk.answer_of, (deed,)
        choice = chance.random()
        if choice < 0.08 and deed[0] == "evening":
            row, answer, given = row.replace("evening", "would"), clerk.would, deed[1:]
        elif choice < 0.15:
            at, there = random_right(chance, clerk.ledger)
            row, given = " ".join(["right", str(max(at, 0)), *there]), (max(at, 0), there)
            answer = lambda *right: str(len(clerk.ledger.set_right(*right)))
        elif choice < 0.2:
            many = chance.choice((0, 1, 2, 300))
            row, answer, given = f"back {many}", clerk.back, (many,)
        elif choice < 0.25:
            name = chance.choice(clerk.state().people() + ["nobody"])
            row, given = f"owes {name}", (name,)
            answer = lambda one: part_by(clerk.state().row[clerk.state().seat(one)])
        if row is None:
            return None
        try:
            expected = answer(*given)
        except Refusal as refusal:
            expected = refusal.kind
        self.assertEqual(desk.take(row), expected, row)
        return (row.split()[0], expected if expected[0].isupper() else "told")

    def test_against_a_ledger(self):
        counts = {}
        for seed in range(40):
            chance = Random(seed)
            weight = chance.choice((1, 2, 12))
            desk, clerk = Desk(weight=weight), Clerk(weight)
            for turn in range(70):
                key = self.step(chance, desk, clerk)
                counts[key] = counts.get(key, 0) + 1
                self.assertEqual(desk.take("show"), text_by(clerk.state().moment()))
                self.assertEqual(desk.take("sums"), clerk.sums())
                self.assertEqual(desk.take("kitty"), part_by(clerk.kitty()))
                self.assertEqual(desk.take("payments"), clerk.payments())
            self.assertEqual(desk.club().facts(), clerk.ledger.facts)
        for word in ("come", "leave", "evening", "offer", "gift", "weigh", "would", "right", "back", "owes"):
            self.assertGreater(counts.get((word, "told"), 0), 20, counts)
        for key in (
            ("come", "Taken"), ("leave", "NoPerson"), ("evening", "NoEvening"), ("evening", "NoDuty"),
            ("offer", "NoDuty"), ("offer", "NoEvening"), ("offer", "Beyond"), ("gift", "NoGift"), ("gift", "NoPerson"),
            ("weigh", "NoWeight"), ("weigh", "Beyond"), ("right", "NoFact"), ("right", "NoEvening"), ("back", "NoBack"),
            ("owes", "NoPerson"),
        ):
            self.assertGreater(counts.get(key, 0), 1, (key, counts))


class TestRows(unittest.TestCase):
    def check(self, desk, *rows):
        """Pairs of a row and its answer, one behind the other."""
        for row, answer in rows:
            self.assertEqual(desk.take(row), answer, row)

    def test_each_word_let(self):
        self.check(
            Desk(weight=6), ("come ann", "0 0"), ("come bob", "1 0"), ("come cid", "2 0"),
            ("payments", "0 ann 0 1 bob 0 2 cid 0"), ("would bob ann : 5 6", "ann 6 bob 5"),
            ("evening ann bob : 6", "ann 6"), ("owes ann", "-3"), ("owes bob", "3"), ("sums", "0 3 3 0"),
            ("leave ann", "-3"), ("kitty", "-3"), ("gift bob cid 1/2", "done"), ("offer bob cid : cid 1", "done"),
            ("owes bob", "3"), ("owes cid", "0"), ("come dan", "0 -3"), ("kitty", "0"),
            ("payments", "0 ann 0 1 bob 0 2 cid 0 4 ann -3 7 dan 3"), ("right 3 cid ann bob", "2"),
            ("payments", "0 ann 0 1 bob 0 2 cid 0 4 ann -4 7 dan 4"), ("right 3 cid ann bob", "0"),
            ("weigh 9", "done"), ("show", "weight 9\nseat dan -4\nseat bob 2\nseat cid 2\n"),
            ("evening dan bob cid :", "-"), ("would dan cid : 9 1", "cid 9 dan 1"), ("back 2", "done"),
            ("show", "weight 6\nseat dan -4\nseat bob 2\nseat cid 2\n"), ("back 0", "done"),
            ("offer dan bob :", "done"), ("new 7", "done"), ("payments", "-"), ("show", "weight 7\n"),
            ("sums", "0"), ("kitty", "0"), ("back 0", "done"),
        )

    def test_each_word_refused(self):
        desk = desk_of_three()
        before = all_of(desk.club())
        self.check(
            desk, ("come ann", "Taken"), ("leave dan", "NoPerson"), ("evening ann : 5", "NoEvening"),
            ("evening : 5", "NoEvening"),
            ("evening :", "NoEvening"), ("evening ann ann : 5", "NoEvening"), ("evening ann dan : 5", "NoEvening"),
            ("evening ann bob : 0", "NoDuty"), ("evening ann bob : 7", "NoDuty"), ("evening ann bob : 1 1 1", "NoDuty"),
            ("would ann : 5", "NoEvening"), ("would : 5", "NoEvening"), ("would ann bob : 0", "NoDuty"),
            ("would :", "NoEvening"), ("offer ann : ann 5", "NoEvening"), ("offer :", "NoEvening"),
            ("offer : ann 5", "NoEvening"), ("offer ann bob : cid 5", "NoDuty"), ("offer ann bob : ann 0", "NoDuty"),
            ("offer ann bob : ann 7", "NoDuty"), ("offer ann bob : ann 1 ann 1", "NoDuty"),
            ("gift bob ann 7", "NoGift"), ("gift ann bob 1", "NoGift"), ("gift bob ann 0", "NoGift"),
            ("gift bob ann -1/2", "NoGift"), ("gift dan ann 1", "NoPerson"), ("gift ann dan 1", "NoPerson"),
            ("weigh 0", "NoWeight"), ("weigh 2", "Beyond"), ("owes dan", "NoPerson"), ("right 4", "NoFact"),
            ("right 4 ann bob", "NoFact"), ("right 0 ann bob", "NoFact"), ("right 3", "NoEvening"),
            ("right 3 ann", "NoEvening"), ("right 3 bob cid", "NoEvening"), ("right 3 ann dan", "NoEvening"),
            ("right 3 ann ann", "NoEvening"), ("back 5", "NoBack"), ("new 0", "NoWeight"),
        )
        self.assertEqual(all_of(desk.club()), before)

    def test_beyond_and_astray(self):
        desk = Desk()
        self.check(
            desk, ("come a", "0 0"), ("come b", "1 0"), ("come c", "2 0"), ("offer a b : a 1", "done"),
            ("offer a c : a 1", "done"), ("offer b a : a 1", "Beyond"), ("right 3 a b c", "Astray"),
            ("right 4 a b", "0"), ("show", "weight 1\nseat a -1\nseat b 1\nseat c 0\n"),
        )

    def test_those_that_the_document_names(self):
        desk = Desk(weight=9)
        self.check(
            desk, ("evening a : 5", "NoEvening"), ("evening : 5", "NoEvening"), ("gift a b -1/2", "NoPerson"),
            ("weigh 0", "NoWeight"), ("owes a", "NoPerson"), ("right 4", "NoFact"), ("new 0", "NoWeight"),
            ("come a", "0 0"), ("come b", "1 0"), ("evening a b : 0", "NoDuty"), ("gift a b -1/2", "NoGift"),
        )
        for row in ("evening a b", "offer a b : a"):
            self.assertRaises(NoRow, desk.take, row)

    def test_evenings_with_nobody_serving(self):
        desk = desk_of_three()
        self.check(desk, ("evening bob cid :", "-"), ("would bob cid :", "-"), ("offer bob cid :", "done"))
        self.assertEqual(desk.club().facts()[4:], [("evening", (1, 2), ()), ("evening", (1, 2), ())])

    def test_long_numbers(self):
        desk = Desk()
        long, parts = "1" + "0" * 3900, "9" * 3900
        self.check(
            desk, (f"new {long}", "done"), ("show", f"weight {long}\n"), ("come ann", "0 0"), ("come bob", "1 0"),
            (f"evening ann bob : {parts}", f"ann {parts}"), ("owes bob", f"{parts}/2"), (f"back {long}", "NoBack"),
            (f"gift bob ann {parts}/2", "done"), ("owes bob", "0"), (f"right {long} ann bob", "NoFact"),
        )


class TestNoRow(unittest.TestCase):
    def refused(self, desk, rows):
        """All these are no rows, and change nothing."""
        before = all_of(desk.club())
        for row in rows:
            with self.subTest(row=row):
                self.assertRaises(NoRow, desk.take, row)
        self.assertEqual(all_of(desk.club()), before)

    def test_too_few_words_and_too_many(self):
        self.refused(desk_of_three(), (
            "", "come", "come dan eva", "leave", "leave ann bob", "evening", "evening ann bob", "evening ann bob 5",
            "evening ann bob : 5 : 3", "evening : ann bob : 5", "evening : :", "offer", "offer ann bob",
            "offer ann bob ann 5", "offer ann bob : ann", "offer ann bob : ann 5 bob", "offer ann bob : 5",
            "offer ann bob : : ann 5", "gift", "gift bob", "gift bob ann", "gift bob ann 1/2 1/2",
            "gift bob ann cid 1/2", "weigh", "weigh 6 7", "owes", "owes ann bob", "kitty ann", "kitty kitty",
            "kitty 0", "sums 1", "sums sums", "would", "would ann bob", "would ann bob 5", "would ann bob : 5 :",
            "right", "back", "back 1 1", "payments 1", "payments ann", "show 1", "show show", "new", "new 7 7",
        ))

    def test_words_that_are_none(self):
        self.refused(desk_of_three(), (
            "Come dan", "COME dan", "comes dan", "co dan", "dan", "dan come", "join", "join 6", "twin", "facts",
            "moment", "do", "Show", "sum", "kitties", "payment", "-", ":", "7", "done", "help", "come:dan", "come,dan",
            "show;", "show.",
        ))

    def test_blanks_and_other_signs(self):
        for row in (
            "come dan", "leave ann", "evening ann bob : 5", "evening ann bob :", "offer ann bob : ann 5", "kitty",
            "sums", "gift bob ann 1/2", "weigh 7", "owes ann", "would ann bob : 5", "right 3 ann bob", "back 1",
            "payments", "show", "new 7",
        ):
            spoilt = [" " + row, row + " ", row + "\n", "\n" + row, "\t" + row, row.upper(), row + " \n", row + "\r"]
            for between in ("  ", "\t", "\n", "", ",", "_", "\u00a0") if " " in row else ():
                spoilt.append(row.replace(" ", between, 1))
            self.refused(desk_of_three(), spoilt)
            for at in range(len(row)):
                if row[at] == " ":
                    self.refused(desk_of_three(), [row[:at] + " " + row[at:]])
        self.refused(desk_of_three(), (" ", "  ", "\n", "\t"))

    def test_colons_beside_words(self):
        self.refused(desk_of_three(), (
            "evening ann bob: 5", "evening ann bob :5", "evening ann bob:5", "evening: ann bob : 5",
            "evening ann bob :: 5", "evening ann bob ; 5", "offer ann bob: ann 5", "offer ann bob :ann 5",
            "would ann bob: 5",
        ))

    def test_no_numbers(self):
        for word in NO_NUMBERS:
            self.refused(desk_of_three(), (
                f"evening ann bob : {word}", f"evening ann bob : 5 {word}", f"evening ann bob : {word} 5",
                f"would ann bob : {word}", f"offer ann bob : ann {word}", f"offer ann bob : ann 5 bob {word}",
                f"weigh {word}", f"right {word} ann bob", f"right {word}", f"back {word}", f"new {word}",
            ))

    def test_no_names(self):
        for word in NO_NAMES + [":", "5", "0", "ann:"]:
            self.refused(desk_of_three(), (
                f"come {word}", f"leave {word}", f"owes {word}", f"evening ann {word} bob : 5 : 5",
                f"offer ann bob : {word} 5", f"offer ann bob : ann 5 {word} 5", f"gift {word} ann 1",
                f"gift bob {word} 1", f"right 3 {word} ann bob", f"right 3 ann bob {word}",
            ))
            if word != ":":
                self.refused(desk_of_three(), (
                    f"evening {word} ann bob : 5", f"evening ann bob {word} : 5", f"would ann {word} : 5",
                    f"offer ann {word} : ann 5",
                ))

    def test_no_parts(self):
        for word in NO_PARTS:
            self.refused(desk_of_three(), (f"gift bob ann {word}",))

    def test_no_row_goes_ahead_of_other_refusals(self):
        desk = Desk()
        for row in ("evening a : x", "offer a : b", "gift a b 2/2", "weigh 00", "owes A", "right x a", "back -1"):
            self.assertRaises(NoRow, desk.take, row)

    def test_of_anything(self):
        desk = desk_of_three()
        before = all_of(desk.club())
        for thing in strangers() + [Flatterer(), 5, b"show", ["show"], ("show",), ("come", "dan"), ["come", "dan"]]:
            self.assertRaises(NoRow, desk.take, thing)
        self.assertEqual(all_of(desk.club()), before)


class TestDesk(unittest.TestCase):
    def test_a_new_desk(self):
        self.assertTrue(Desk().club() == Club(1))
        self.assertTrue(Desk(weight=5).club() == Club(5))
        for weight in no_weights():
            self.assertRaises(NoWeight, Desk, weight=weight)
        self.assertRaises(TypeError, Desk, 5)

    def test_the_club_itself(self):
        desk = desk_of_three()
        club = desk.club()
        self.assertIs(club.__class__, Club)
        self.assertIs(desk.club(), club)
        club.join(made(6, "- 2, zoe -2"))
        self.assertEqual(desk.take("owes zoe"), "-2")
        self.assertEqual(desk.take("kitty"), "2")
        self.assertEqual(desk.take("show"), text_by(club.moment()))
        desk.take("come dan")
        self.assertEqual(club.facts()[-1], ("come", "dan", 3))
        desk.take("back 6")
        self.assertTrue(club == Club(6))

    def test_behind_new_another_one(self):
        desk = desk_of_three()
        club = desk.club()
        before = all_of(club)
        self.assertEqual(desk.take("new 0"), "NoWeight")
        self.assertIs(desk.club(), club)
        self.assertEqual(desk.take("new 7"), "done")
        self.assertIsNot(desk.club(), club)
        self.assertTrue(desk.club() == Club(7))
        desk.take("come eva")
        self.assertEqual(all_of(club), before)
        club.come("fay")
        self.assertEqual(desk.take("payments"), "0 eva 0")

    def test_two_desks_are_apart(self):
        one, other = Desk(), Desk()
        one.take("come ann")
        self.assertEqual(other.take("payments"), "-")

    def test_the_ledgers_state_is_the_clubs(self):
        desk = desk_of_three()
        state = State(6, ("ann", "bob", "cid"), (Fraction(-3), Fraction(3), Fraction(0)))
        self.assertEqual(desk.take("show"), text_by(state.moment()))
        self.assertEqual(desk.club().moment(), (6, (("ann", told(-3)), ("bob", told(3)), ("cid", told(0)))))


if __name__ == "__main__":
    unittest.main()
