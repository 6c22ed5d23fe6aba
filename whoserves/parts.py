"""Parts: numbers with a below, in lowest terms, as tuples (above, below)."""

from whoserves.errors import NoPart, NoText

NOUGHT = (0, 1)


def is_whole(thing):
    """Whether this is an int that is neither True nor False."""
    return isinstance(thing, int) and not isinstance(thing, bool)


def greatest_common(one, other):
    """The greatest number that goes into both, of whole numbers from 0 on."""
    while other != 0:
        one, other = other, one % other
    return one


def is_part(thing):
    """Whether this is a part: True or False, of anything."""
    if not isinstance(thing, tuple) or len(thing) != 2:
        return False
    above, below = thing
    if not is_whole(above) or not is_whole(below) or below <= 0:
        return False
    return greatest_common(abs(above), below) == 1


def part(above, below=1):
    """The part that stands for above divided by below."""
    if not is_whole(above) or not is_whole(below):
        raise NoPart("a part is made of whole numbers")
    if below == 0:
        raise NoPart("nothing is divided by 0")
    if below < 0:
        above, below = -above, -below
    common = greatest_common(abs(above), below)
    return (above // common, below // common)


def plus(one, other):
    """Both parts together."""
    return part(one[0] * other[1] + other[0] * one[1], one[1] * other[1])


def minus(one, other):
    """The one part less the other."""
    return part(one[0] * other[1] - other[0] * one[1], one[1] * other[1])


def times(one, many):
    """The part as often as many says, a whole number."""
    return part(one[0] * many, one[1])


def shared(one, many):
    """The part divided by many, a whole number from 1 on."""
    if not is_whole(many) or many < 1:
        raise NoPart("a part is shared by a whole number from 1 on")
    return part(one[0], one[1] * many)


def is_less(one, other):
    """Whether the one part is less than the other."""
    return one[0] * other[1] < other[0] * one[1]


def total(row, *, start=NOUGHT):
    """The start and all parts of the row together."""
    found = start
    for one in row:
        found = plus(found, one)
    return found


def part_text(one):
    """The text of a part."""
    above, below = one
    if below == 1:
        return str(above)
    return f"{above}/{below}"


def number_in(text):
    """The whole number that int finds in a text; else NoText."""
    try:
        number = int(text)
    except ValueError:
        raise NoText("there is no whole number in the text") from None
    return number


def read_part(text):
    """The part of which this is the text; else NoText, of anything."""
    if not isinstance(text, str):
        raise NoText("a part is read from a text")
    above, slash, below = text.partition("/")
    pair = (number_in(above), number_in(below) if slash == "/" else 1)
    # int also takes blanks, a plus, noughts ahead; and a below of 1 is not written.
    if not is_part(pair) or part_text(pair) != text:
        raise NoText("no part has this text")
    return pair
