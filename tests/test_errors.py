"""The refusals: how they stand under one another, and the values they have [2]."""

import unittest

from whoserves import errors
from whoserves.errors import Astray, Beyond, ClubError, Taken, Unbalanced

OF_TEXT = (
    "NoPart", "NoName", "NoWeight", "NoPerson", "NoSeat", "NoEvening", "NoDuty", "NoGift", "Unlike", "NoFact",
    "NoBack", "NoDeed", "NoText", "NoRow",
)
OF_VALUES = ("Taken", "Beyond", "Unbalanced", "Astray")


def made():
    """One refusal of each class that stands under ClubError."""
    of_text = [getattr(errors, name)("some words") for name in OF_TEXT]
    return of_text + [Taken("ann"), Beyond(2, (3, 1)), Unbalanced((-1, 2)), Astray(5, 1, (4,))]


class TestErrors(unittest.TestCase):
    def test_there_are_eighteen_straight_under_club_error(self):
        self.assertEqual(len(OF_TEXT + OF_VALUES), 18)
        for name in OF_TEXT + OF_VALUES:
            with self.subTest(name):
                self.assertEqual(getattr(errors, name).__bases__, (ClubError,))
        self.assertEqual(ClubError.__bases__, (ValueError,))

    def test_none_is_under_another(self):
        for refusal in made():
            for name in OF_TEXT + OF_VALUES:
                with self.subTest(kind=refusal.__class__.__name__, under=name):
                    is_its_own = refusal.__class__.__name__ == name
                    self.assertEqual(isinstance(refusal, getattr(errors, name)), is_its_own)

    def test_each_is_raised_and_caught_as_club_error(self):
        for refusal in [ClubError("some words")] + made():
            with self.subTest(refusal.__class__.__name__):
                with self.assertRaises(ClubError) as caught:
                    raise refusal
                self.assertIs(caught.exception, refusal)
                with self.assertRaises(ValueError):
                    raise refusal

    def test_those_of_a_text_keep_it(self):
        self.assertEqual(str(ClubError("some words")), "some words")
        for name in OF_TEXT:
            self.assertEqual(str(getattr(errors, name)("some words")), "some words", name)

    def test_values(self):
        self.assertEqual(Taken("ann").person, "ann")
        self.assertEqual((Beyond(2, (3, 1)).many, Beyond(2, (3, 1)).seats), (2, (3, 1)))
        self.assertEqual(Unbalanced((-1, 2)).owed, (-1, 2))
        astray = Astray(5, 1, (4,))
        self.assertEqual((astray.at, astray.many, astray.seats), (5, 1, (4,)))

    def test_values_of_more_figures_than_str_writes(self):
        owed = (10 ** 5000, 1)
        self.assertEqual(Unbalanced(owed).owed, owed)

    def test_values_are_each_refusals_own(self):
        one, other = Beyond(1, (0,)), Beyond(2, (1, 0))
        self.assertEqual((one.many, one.seats), (1, (0,)))
        self.assertEqual((other.many, other.seats), (2, (1, 0)))


if __name__ == "__main__":
    unittest.main()
