"""The text of a moment, and reading it."""

from whoserves.errors import NoText
from whoserves.moments import EMPTY, is_moment
from whoserves.parts import number_in, part_text, read_part

NOBODY = "-"


def seat_line(person, owed):
    """The line of one seat."""
    name = NOBODY if person == EMPTY else person
    return f"seat {name} {part_text(owed)}\n"


def moment_text(moment):
    """The text of a moment."""
    weight, seats = moment
    lines = [seat_line(person, owed) for person, owed in seats]
    return f"weight {weight}\n" + "".join(lines)


def last_words(line, many):
    """The words of a line behind the first one; NoText where there are not so many."""
    words = line.split(" ")[1:]
    if len(words) != many:
        raise NoText("the line has fewer words, or more")
    return words


def seat_in(line):
    """The seat that a line tells of, if it is one's line."""
    name, owed = last_words(line, 2)
    return (EMPTY if name == NOBODY else name, read_part(owed))


def read_moment(text):
    """The moment of which this is the text; else NoText, of anything."""
    if not isinstance(text, str):
        raise NoText("a moment is read from a text")
    lines = text.split("\n")
    weight = number_in(last_words(lines[0], 1)[0])
    found = (weight, tuple([seat_in(line) for line in lines[1:-1]]))
    # The lines were read by their last words alone: written again, the text shows whether all else is right.
    if not is_moment(found) or moment_text(found) != text:
        raise NoText("no moment has this text")
    return found
