"""The text of a moment, and reading it [29]."""

import re
import unittest
from fractions import Fraction

from tests.made import TINY, is_truly_moment, made, random_moments, told, widest
from tests.things import Flatterer, strangers
from whoserves.errors import NoText
from whoserves.momenttexts import moment_text, read_moment

MOMENTS = random_moments(29, 200)
SMALL = (
    made(1), made(12), made(1, "- 0"), made(1, "ann 1/2, - -1/2"), made(10, "a -10, bob 0, - 21/2, cid -1/2"),
    made(2, "abcdefgh 0, - 0, zz 0"),
)
SIGNS = " -+/0129abnz_.,\n\tA:"
WHOLE = re.compile(r"weight ([1-9][0-9]*)\n((?:seat (?:-|[a-z]{1,8}) (?:0|-?[1-9][0-9]*)(?:/[1-9][0-9]*)?\n)*)")


def text_by(moment):
    """The text of a moment, by the words of 29."""
    text = "weight %d\n" % moment[0]
    for person, (above, below) in moment[1]:
        text += "seat %s %d%s\n" % (person or "-", above, "" if below == 1 else "/%d" % below)
    return text


def truly_read(text):
    """The moment of a text, or None, by a pattern and the moment's conditions."""
    found = WHOLE.fullmatch(text)
    if not found:
        return None
    seats = []
    for line in found.group(2).split("\n")[:-1]:
        person, owes = line.split(" ")[1:]
        seats.append(("" if person == "-" else person, told(Fraction(owes))))
    moment = (int(found.group(1)), tuple(seats))
    return moment if is_truly_moment(moment) and text_by(moment) == text else None


def spoilt_texts(text):
    """The text with each sign left out, exchanged, or another one put in."""
    for at in range(len(text) + 1):
        for sign in SIGNS:
            yield text[:at] + sign + text[at:]
            yield text[:at] + sign + text[at + 1:]
        yield text[:at] + text[at + 1:]


class TestMomentText(unittest.TestCase):
    def test_against_the_words(self):
        for moment in MOMENTS + list(SMALL):
            self.assertEqual(moment_text(moment), text_by(moment))

    def test_some_as_they_are_written(self):
        self.assertEqual(moment_text((7, ())), "weight 7\n")
        self.assertEqual(
            moment_text(made(10, "a -10, bob 0, - 21/2, cid -1/2")),
            "weight 10\nseat a -10\nseat bob 0\nseat - 21/2\nseat cid -1/2\n",
        )


class TestReadMoment(unittest.TestCase):
    def test_what_is_so_written_is_read(self):
        for moment in MOMENTS + list(SMALL):
            self.assertEqual(read_moment(text_by(moment)), moment)
            self.assertEqual(read_moment(moment_text(moment)), moment)

    def test_numbers_of_thousands_of_figures(self):
        weight = 10 ** 3990 + 7
        moment = (weight, tuple(zip(("ann", ""), [told(one) for one in widest(weight, 2)])))
        self.assertEqual(read_moment(moment_text(moment)), moment)
        tiny = Fraction(1, 10 ** 3900 + 1)
        moment = (1, (("ann", told(tiny)), ("", told(-tiny))))
        self.assertEqual(read_moment(moment_text(moment)), moment)

    def test_sixty_seats(self):
        weight = 10 ** 30 - 1
        names = [one + other for one in "abcdefgh" for other in "abcdefgh"][:60]
        moment = (weight, tuple(zip(names, [told(one) for one in widest(weight, 60)])))
        self.assertEqual(read_moment(moment_text(moment)), moment)
        self.assertRaises(NoText, read_moment, moment_text((weight - 1, moment[1])))

    def test_each_sign_put_in_left_out_or_exchanged(self):
        read = 0
        for moment in SMALL:
            for text in spoilt_texts(text_by(moment)):
                truly = truly_read(text)
                if truly is None:
                    self.assertRaises(NoText, read_moment, text)
                else:
                    read += 1
                    self.assertEqual(read_moment(text), truly)
        self.assertGreater(read, 100)

    def test_lines_exchanged(self):
        lines = ["weight 10\n", "seat a -9\n", "seat - 19/2\n", "seat cid -1/2\n"]
        self.assertEqual(read_moment("".join(lines)), made(10, "a -9, - 19/2, cid -1/2"))
        others = [lines[at] for at in (0, 3, 1, 2)]
        self.assertEqual(read_moment("".join(others)), made(10, "cid -1/2, a -9, - 19/2"))
        for order in ((1, 0, 2, 3), (1, 2, 3, 0), (3, 2, 1, 0), (0, 0, 1, 2, 3), (0, 1, 2, 3, 0), (1, 2, 3)):
            self.assertRaises(NoText, read_moment, "".join([lines[at] for at in order]))

    def test_line_feeds(self):
        text = "weight 10\nseat a -1\nseat b 1\n"
        self.assertEqual(read_moment(text), made(10, "a -1, b 1"))
        for spoilt in (
            text[:-1], text + "\n", "\n" + text, text.replace("\n", "\n\n", 1), text.replace("\n", "\r\n"), "\n", "",
            text.replace("\n", " "), text + " ", "weight 10", "weight 10\n\n", "weight 10\r\n", text * 2, text + "seat",
        ):
            self.assertRaises(NoText, read_moment, spoilt)

    def test_other_words_and_forms(self):
        for line in (
            "seat a 0 ", " seat a 0", "seat  a 0", "seat a  0", "seat a", "seat 0", "seat a 0 0", "seat a b 0", "a 0",
            "Seat a 0", "seats a 0", "SEAT a 0", "sea a 0", "seat A 0", "seat abcdefghi 0", "seat a1 0", "seat -- 0",
            "seat a 00", "seat a -0", "seat a +0", "seat a 0/1", "seat a 0/2", "seat a 0.0", "seat a o", "seat a\t0",
            "seat a -", "seat a /", "seat a 0/", "seat a /1", "seat _ 0", "seat a_ 0", "seat a 0_0", "seat a none",
            "seat", "weight 0", "weight 1", "seat 0 a", "seat:a:0", "- 0", "seat \u00e4 0", "seat a \u0660", "",
        ):
            self.assertRaises(NoText, read_moment, f"weight 3\n{line}\n")
            self.assertRaises(NoText, read_moment, f"weight 3\nseat b 0\n{line}\n")
        self.assertEqual(read_moment("weight 3\nseat b 0\nseat a 0\n"), made(3, "b 0, a 0"))
        for head in (
            "weight 0", "weight -1", "weight 01", "weight +1", "weight 1/2", "weight 1 ", " weight 1", "weight  1",
            "weight", "weight ", "1", "Weight 1", "weigh 1", "weight 1 1", "weight one", "weight 1_0", "weight 2/1",
            "weight \u0661", "weight\t1", "weight 1.0", "seat 1", "weight a", "weight \uff11", "weight 0x1",
        ):
            self.assertRaises(NoText, read_moment, f"{head}\n")
            self.assertRaises(NoText, read_moment, f"{head}\nseat a 0\n")

    def test_parts_that_are_not_in_lowest_terms(self):
        self.assertEqual(read_moment("weight 3\nseat a 1/2\nseat b -1/2\n"), made(3, "a 1/2, b -1/2"))
        for one, other in (
            ("2/4", "-1/2"), ("1/2", "-2/4"), ("1/2", "1/-2"), ("1/1", "-1"), ("2/2", "-1"), ("1", "-3/3"),
            ("1/2", "-0/2"), ("1/0", "-1/0"), ("-1/-2", "-1/2"),
        ):
            self.assertRaises(NoText, read_moment, f"weight 3\nseat a {one}\nseat b {other}\n")

    def test_what_is_no_moment(self):
        for weight, text in (
            (1, "a 1, b -1"), (3, "a 1"), (3, "a 1/2, b -1/3"), (2, "a 0, a 0"), (2, "a 1, b 0, a -1"),
            (9, "- 1"), (1, "a 3/4, b 1/2, c -5/4"),
        ):
            self.assertFalse(is_truly_moment(made(weight, text)))
            self.assertRaises(NoText, read_moment, text_by(made(weight, text)))
        row = [Fraction(1, 2) + TINY, Fraction(-1, 2) - TINY]
        self.assertRaises(NoText, read_moment, text_by((1, tuple(zip("ab", map(told, row))))))

    def test_two_empty_seats_are_no_persons_alike(self):
        self.assertEqual(read_moment("weight 2\nseat - 1\nseat - -1\n"), made(2, "- 1, - -1"))

    def test_no_text_of_anything(self):
        for thing in strangers() + [Flatterer(), 5, b"weight 1\n", ["weight 1\n"], ("weight 1\n",), (1, ()), "weight"]:
            self.assertRaises(NoText, read_moment, thing)


if __name__ == "__main__":
    unittest.main()
