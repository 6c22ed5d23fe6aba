"""The text of a part, and what is read [5]."""

import unittest
from itertools import product

from tests.things import strangers
from whoserves.errors import ClubError, NoText
from whoserves.parts import is_part, part_text, read_part

WRITTEN = (
    ((0, 1), "0"), ((1, 1), "1"), ((-1, 1), "-1"), ((10, 1), "10"), ((-120, 1), "-120"), ((1, 2), "1/2"),
    ((-1, 2), "-1/2"), ((3, 2), "3/2"), ((7, 10), "7/10"), ((-100, 9), "-100/9"), ((1, 100), "1/100"),
    ((10 ** 60 + 1, 10 ** 59), "1" + "0" * 59 + "1/1" + "0" * 59),
    ((-(10 ** 3999), 3), "-1" + "0" * 3999 + "/3"), ((10 ** 3999, 1), "1" + "0" * 3999),
    ((1, 10 ** 3999), "1/1" + "0" * 3999),
)
NOT_SO_WRITTEN = (
    "", " ", "\n", "-", "/", "-/", "/2", "1/", "-1/", "-/2", "00", "01", "-01", "007", "01/2", "1/02", "1/002",
    "+1", "+1/2", "1/+2", "+0", "-0", "-0/1", "--1", "- 1", "1-", "1/-2", "-1/-2", "1/1", "0/1", "-5/1", "10/1",
    "1/0", "0/0", "-3/0", "2/2", "2/4", "6/4", "-6/4", "0/2", "0/5", "10/5", "1/2/3", "1//2", "1/2/", "/1/2",
    " 1", "1 ", " 1/2", "1/2 ", "1 /2", "1/ 2", "1 2", "\n1", "1\n", "1/2\n", "1/\n2", "1\n/2", "1_0", "1/1_0",
    "1_000", "0x1", "1e3", "1.0", "1.5", ".5", "1.", "1,5", "a", "1a", "a1", "1/a", "a/2", "one", "None", "True",
    "(1, 2)", "1:2", "1\\2", "1|2", "~", "!", "1/2~", "inf", "nan", "0b1", "1L", "-", "- ",
)


class TestPartText(unittest.TestCase):
    def test_written(self):
        for one, text in WRITTEN:
            with self.subTest(text=text[:40]):
                self.assertEqual(part_text(one), text)

    def test_read(self):
        for one, text in WRITTEN:
            with self.subTest(text=text[:40]):
                found = read_part(text)
                self.assertEqual(found, one)
                self.assertIs(found.__class__, tuple)

    def test_there_and_back(self):
        for pair in product(range(-30, 31), range(1, 31)):
            if is_part(pair):
                self.assertEqual(read_part(part_text(pair)), pair)

    def test_what_is_read_was_written_so(self):
        for signs in product("-/0124 ", repeat=4):
            text = "".join(signs).rstrip(" ")
            with self.subTest(text=text):
                try:
                    found = read_part(text)
                except NoText:
                    continue
                self.assertTrue(is_part(found))
                self.assertEqual(part_text(found), text)


class TestNoText(unittest.TestCase):
    def test_not_just_so_written(self):
        for text in NOT_SO_WRITTEN:
            with self.subTest(text=text):
                self.assertRaises(NoText, read_part, text)

    def test_each_pair_of_numbers_that_is_no_part(self):
        for above, below in product(range(-12, 13), range(-3, 13)):
            if below == 1 or not is_part((above, below)):
                with self.subTest(above=above, below=below):
                    self.assertRaises(NoText, read_part, f"{above}/{below}")

    def test_every_sign_that_is_no_figure(self):
        for sign in [chr(code) for code in range(32, 127)] + ["\n"]:
            if not sign.isdigit():
                with self.subTest(sign=sign):
                    self.assertRaises(NoText, read_part, sign)
                    self.assertRaises(NoText, read_part, "7" + sign)
                    self.assertRaises(NoText, read_part, "7/8" + sign)
                    self.assertRaises(NoText, read_part, "7/" + sign + "8")
                    if sign != "-":
                        self.assertRaises(NoText, read_part, sign + "7")
                    if sign != "/":
                        self.assertRaises(NoText, read_part, "7" + sign + "8")

    def test_many_figures(self):
        for text in ("0" + "1" * 3999, "+" + "1" * 3999, "1" * 3999 + " ", "2" * 3000 + "/" + "2" * 3000):
            self.assertRaises(NoText, read_part, text)

    def test_more_figures_than_str_writes(self):
        for text in ("1" * 8900, "-" + "1" * 8900, "1/" + "3" * 8900):
            self.assertRaises(NoText, read_part, text)

    def test_figures_of_other_scripts(self):
        for text in ("\u0663", "\uff11", "1/\uff12", "\u00b2", "\u00bd"):
            self.assertRaises(NoText, read_part, text)

    def test_of_things_that_are_no_texts(self):
        for thing in strangers() + [0, 1, -1, (1, 2), (0, 1), b"1/2", ["1"], ("1",)]:
            with self.subTest(thing=thing):
                self.assertRaises(NoText, read_part, thing)
                self.assertRaises(ClubError, read_part, thing)


if __name__ == "__main__":
    unittest.main()
