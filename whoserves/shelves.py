"""Shelves: books that several hands keep apart, and copies of them."""

from whoserves.clubs import Club
from whoserves.errors import NoName, Unlike
from whoserves.moments import EMPTY, is_name, sits
from whoserves.parts import NOUGHT, plus, total
from whoserves.sums import most


def check_names(names):
    """Refuses with NoName what is no tuple of unlike names."""
    if not isinstance(names, tuple) or not all([is_name(name) for name in names]):
        raise NoName("persons are a tuple of names")
    if len(set(names)) != len(names):
        raise NoName("the names of persons are unlike")


def most_in(moment, names):
    """The most of those of these persons that sit in a moment."""
    weight, seats = moment
    return most(weight, len(seats), len([name for name in names if sits(moment, name)]))


class Shelf:
    """A hand's own book and copies of those of other hands, by their hands, with their editions."""

    def __init__(self, hand, *, weight=1):
        if not is_name(hand):
            raise NoName("a hand is a name")
        self.own_hand = hand
        self.books = {hand: Club(weight)}
        self.editions = {hand: 0}

    def hand(self):
        """The hand whose shelf it is."""
        return self.own_hand

    def book(self):
        """A twin of the hand's own book."""
        return self.books[self.own_hand].twin()

    def do(self, deed):
        """Does a deed to the book: what it tells."""
        telling = self.books[self.own_hand].do(deed)
        self.editions[self.own_hand] += 1
        return telling

    def back(self, many=1):
        """Takes so many last facts of the book back."""
        self.books[self.own_hand].back(many)
        self.editions[self.own_hand] += 1

    def set_right(self, number, there):
        """Sets an evening of the book right: how much more was to be paid."""
        telling = self.books[self.own_hand].set_right(number, there)
        self.editions[self.own_hand] += 1
        return telling

    def take_in(self, other):
        """Takes the greater editions from another hand's shelf."""
        if other.hand() == self.own_hand:
            raise Unlike("a shelf takes in those of other hands")
        for hand, edition in other.place():
            if hand != self.own_hand and edition > self.editions.get(hand, -1):
                self.books[hand] = other.copy_of(hand)
                self.editions[hand] = edition

    def copy_of(self, hand):
        """A twin of the copy of that hand's book, or of the own one."""
        if not isinstance(hand, str) or hand not in self.books:
            raise NoName("the shelf has nothing of this hand")
        return self.books[hand].twin()

    def place(self):
        """The edition of each hand."""
        return [(hand, self.editions[hand]) for hand in sorted(self.editions)]

    def together(self):
        """What each person owes in all books and copies together."""
        owed = {}
        for hand in self.books:
            for person, more in self.books[hand].moment()[1]:
                if person != EMPTY:
                    owed[person] = plus(owed.get(person, NOUGHT), more)
        return [(person, owed[person]) for person in sorted(owed)]

    def most_of(self, persons):
        """What these persons may owe together, in all books and copies, at the most."""
        check_names(persons)
        return total([most_in(self.books[hand].moment(), persons) for hand in self.books])
