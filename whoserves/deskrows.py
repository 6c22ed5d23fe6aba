"""The rows of words that a desk takes: what they ask for, or NoRow."""

from whoserves.errors import NoRow, NoText
from whoserves.moments import is_name
from whoserves.parts import number_in, read_part

COLON = ":"


def check_many(words, many):
    """Refuses with NoRow where there are not so many words."""
    if len(words) != many:
        raise NoRow("the row has fewer words, or more")


def name_of(word):
    """The name that a word is."""
    if not is_name(word):
        raise NoRow("the word is no name")
    return word


def number_of(word):
    """The whole number from 0 on that a word is, as str writes it."""
    try:
        number = number_in(word)
    except NoText:
        raise NoRow("the word is no number") from None
    if number < 0 or str(number) != word:
        raise NoRow("the word is no number as it is written")
    return number


def part_of(word):
    """The part that a word is the text of."""
    try:
        found = read_part(word)
    except NoText:
        raise NoRow("the word is no part") from None
    return found


def names_of(words):
    """The names that words are."""
    return tuple([name_of(word) for word in words])


def numbers_of(words):
    """The numbers that words are."""
    return tuple([number_of(word) for word in words])


def around_colon(words):
    """The words ahead of the colon, and those behind it."""
    if words.count(COLON) != 1:
        raise NoRow("there is one colon in the row")
    at = words.index(COLON)
    return (words[:at], words[at + 1:])


def read_nothing(words):
    """Nothing at all."""
    check_many(words, 0)
    return ()


def read_person(words):
    """A person."""
    check_many(words, 1)
    return names_of(words)


def read_number(words):
    """A number."""
    check_many(words, 1)
    return numbers_of(words)


def read_evening(words):
    """Those there, and duties."""
    ahead, behind = around_colon(words)
    return (names_of(ahead), numbers_of(behind))


def read_offer(words):
    """Those there, and what is said: who serves what."""
    ahead, behind = around_colon(words)
    names = names_of(behind[::2])
    duties = numbers_of(behind[1::2])
    if len(names) != len(duties):
        raise NoRow("each name is followed by a duty")
    return (names_of(ahead), tuple(zip(names, duties)))


def read_gift(words):
    """Who gives, who takes, and the part."""
    check_many(words, 3)
    return (name_of(words[0]), name_of(words[1]), part_of(words[2]))


def read_right(words):
    """An evening's number, and those there."""
    if len(words) == 0:
        raise NoRow("the row has a number")
    return (number_of(words[0]), names_of(words[1:]))


READERS = {
    "come": read_person,
    "leave": read_person,
    "evening": read_evening,
    "offer": read_offer,
    "gift": read_gift,
    "weigh": read_number,
    "owes": read_person,
    "kitty": read_nothing,
    "sums": read_nothing,
    "would": read_evening,
    "right": read_right,
    "back": read_number,
    "payments": read_nothing,
    "show": read_nothing,
    "new": read_number,
}


def read_row(text):
    """A row's first word, and what it tells behind it; else NoRow, of anything."""
    if not isinstance(text, str):
        raise NoRow("a row is a text")
    words = text.split(" ")
    if words[0] not in READERS:
        raise NoRow("no row begins with this word")
    read = READERS[words[0]]
    return (words[0], read(words[1:]))
