"""Walks: a club and a ledger to which the same is done, at random."""

from random import Random

from tests.ledger import Ledger, outcome, random_deed, random_right
from whoserves.clubs import Club


class Walk:
    """A club and a ledger to which the same is done, and how often what came of it."""

    def __init__(self, seed):
        self.chance = Random(seed)
        weight = self.chance.choice((1, 2, 5, 12, 10 ** 29 + 7))
        # With few seats many an offer, and many a setting right, goes beyond.
        self.most_seats = self.chance.choice((3, 4, 10))
        self.club = Club(weight)
        self.ledger = Ledger(weight)
        self.outcomes = {}

    def count(self, word, found):
        """Counts what came of a word: told, or the kind of refusal."""
        key = (word, found[0] if found[0] == "told" else found[1])
        self.outcomes[key] = self.outcomes.get(key, 0) + 1

    def deed(self):
        """A deed that may come next."""
        return random_deed(self.chance, self.ledger.states()[-1], most_seats=self.most_seats)

    def step(self, test):
        """Does something to both: they tell the same, or refuse it alike."""
        choice = self.chance.random()
        if choice < 0.8:
            deed = self.deed()
            word, found, own = deed[0], outcome(self.club.do, deed), outcome(self.ledger.do, deed)
        elif choice < 0.9:
            right = random_right(self.chance, self.ledger)
            word, found, own = "right", outcome(self.club.set_right, *right), outcome(self.ledger.set_right, *right)
        elif choice < 0.95:
            many = self.chance.choice((0, 1, 1, 2, 3, 200))
            word, found, own = "back", outcome(self.club.back, many), outcome(self.ledger.back, many)
        else:
            deeds = [self.deed() for turn in range(self.chance.randint(0, 4))]
            word, found, own = "all", outcome(self.club.do_all, deeds), outcome(self.ledger.do_all, deeds)
        test.assertEqual(found, own)
        self.count(word, found)

    def check(self, test):
        """That both tell alike of the whole history."""
        moments = [state.moment() for state in self.ledger.states()]
        test.assertEqual(self.club.facts(), self.ledger.facts)
        test.assertEqual([self.club.moment(at) for at in range(len(moments))], moments)
        test.assertEqual(self.club.moment(), moments[-1])
        test.assertEqual(len(self.club), len(self.ledger.facts))
        test.assertEqual(self.club.payments(), self.ledger.payments())

    def go(self, test, many):
        """Takes so many steps, and then holds the one against the other."""
        for turn in range(many):
            self.step(test)
        self.check(test)
        return self
