"""Long histories of clubs, held against a reckoning of the tests' own [20] to [24], [4]."""

import unittest
from fractions import Fraction
from itertools import combinations
from random import Random

from tests.ledger import PEOPLE
from tests.made import is_truly_moment, number, numbers, owed
from tests.walks import Walk
from whoserves.clubs import Club
from whoserves.moments import is_moment, kitty
from whoserves.papers import is_paper, paper_holds, paper_of


class TestHistories(unittest.TestCase):
    def test_against_a_reckoning_of_our_own(self):
        outcomes = {}
        for seed in range(60):
            walk = Walk(seed)
            for turn in range(90):
                walk.step(self)
                if turn % 9 == 0:
                    walk.check(self)
            walk.check(self)
            for key, many in walk.outcomes.items():
                outcomes[key] = outcomes.get(key, 0) + many
        for word in ("come", "leave", "evening", "offer", "gift", "join", "weigh", "back", "right", "all"):
            self.assertGreater(outcomes[word, "told"], 30, outcomes)
        for key in (
            ("come", "Taken"), ("come", "NoName"), ("leave", "NoPerson"), ("evening", "NoEvening"),
            ("evening", "NoDuty"), ("offer", "NoDuty"), ("offer", "Beyond"), ("gift", "NoGift"), ("join", "Unlike"),
            ("join", "Taken"), ("weigh", "NoWeight"), ("weigh", "Beyond"), ("back", "NoBack"), ("right", "NoFact"),
            ("right", "NoEvening"), ("right", "Astray"),
        ):
            self.assertGreater(outcomes.get(key, 0), 5, (key, outcomes))

    def test_each_moment_is_one_and_its_paper_shows_it(self):
        for seed in range(100, 115):
            walk = Walk(seed).go(self, 90)
            for at in range(len(walk.club) + 1):
                moment = walk.club.moment(at)
                self.assertTrue(is_truly_moment(moment))
                self.assertIs(is_moment(moment), True)
                self.assertIs(paper_holds(moment[0], paper_of(moment)), True)
                self.assertIs(is_paper(moment, paper_of(moment)), True)

    def test_each_k_of_the_seats_the_kitty_and_each_seat_at_each_moment(self):
        for seed in range(150, 190):
            club = Walk(seed).go(self, 100).club
            for at in range(len(club) + 1):
                weight, seats = club.moment(at)
                row = sorted(numbers(club.moment(at)))
                self.assertEqual(sum(row, Fraction(0)), 0)
                for many in range(len(row) + 1):
                    most = Fraction(weight * many * (len(row) - many), 2)
                    self.assertLessEqual(sum(row[len(row) - many:], Fraction(0)), most)
                    self.assertGreaterEqual(sum(row[:many], Fraction(0)), -most)
                empty = len(seats) - len(owed(club.moment(at)))
                held = number(kitty(club.moment(at)))
                self.assertLessEqual(abs(held), Fraction(weight * empty * (len(seats) - empty), 2))
                self.assertTrue(all(abs(one) <= Fraction(weight * (len(row) - 1), 2) for one in row))

    def test_any_seats_owe_and_are_owed_the_most_at_the_most(self):
        for seed in range(200, 206):
            walk = Walk(seed).go(self, 60)
            for at in range(0, len(walk.club) + 1, 4):
                moment = walk.club.moment(at)
                row = numbers(moment)
                for many in range(len(row) + 1):
                    most = Fraction(moment[0] * many * (len(row) - many), 2)
                    for chosen in combinations(row, many):
                        self.assertLessEqual(abs(sum(chosen, Fraction(0))), most)

    def test_payments_and_the_kitties_of_joined_moments_come_to_the_kitty(self):
        joined = 0
        for seed in range(300, 320):
            walk = Walk(seed)
            for turn in range(60):
                walk.step(self)
                paid = [number(part) for at, person, part in walk.club.payments()]
                brought = [
                    number(owes) for fact in walk.club.facts() if fact[0] == "join"
                    for person, owes in fact[1] if not person
                ]
                joined += len(brought)
                self.assertEqual(sum(paid + brought, Fraction(0)), number(kitty(walk.club.moment())))
        self.assertGreater(joined, 20)

    def test_an_old_evening_set_right_is_as_if_it_had_been_so(self):
        """The same offers and gifts, with others there at the first evening: the moments behind are the same."""
        done = 0
        for seed in range(400, 460):
            chance = Random(seed)
            people = PEOPLE[:5]
            there, other = [tuple(chance.sample(people, chance.randint(2, 5))) for turn in range(2)]
            server = chance.choice([person for person in there if person in other] or [""])
            if not server:
                continue
            one, another = Club(6, persons=people), Club(6, persons=people)
            one.offer(there, ((server, 3),))
            another.offer(other, ((server, 3),))
            for turn in range(4):
                later = tuple(chance.sample(people, 3))
                said = ((later[0], 1), (later[2], 1))
                one.offer(later, said)
                another.offer(later, said)
            one.set_right(5, other)
            self.assertEqual(one, another)
            self.assertEqual([one.moment(at) for at in range(11)], [another.moment(at) for at in range(11)])
            done += owed(one.moment(6)) != {}
        self.assertGreater(done, 40)


if __name__ == "__main__":
    unittest.main()
