"""A desk: it has a club, takes rows of words and answers with texts."""

from whoserves.clubs import Club
from whoserves.deskrows import read_row
from whoserves.errors import (
    Astray, Beyond, NoBack, NoDuty, NoEvening, NoFact, NoGift, NoPerson, NoWeight, Taken,
)
from whoserves.evenings import served
from whoserves.moments import kitty, owes, owing
from whoserves.momenttexts import moment_text
from whoserves.parts import part_text
from whoserves.sums import sums_ahead

DONE = "done"
NOTHING = "-"


def words_or_nothing(words):
    """The words with a blank between, or the sign for none."""
    return " ".join(words) if words else NOTHING


def serving_text(pairs):
    """Who serves what."""
    return words_or_nothing([f"{person} {duty}" for person, duty in pairs])


def answer_come(desk, person):
    """The seat of who comes, and what is paid to the person."""
    seat, paid = desk.club().come(person)
    return f"{seat} {part_text(paid)}"


def answer_leave(desk, person):
    """What the person pays who leaves."""
    return part_text(desk.club().leave(person))


def answer_evening(desk, there, duties):
    """Who serves at an evening."""
    return serving_text(desk.club().evening(there, duties))


def answer_offer(desk, there, said):
    """An offer is done."""
    desk.club().offer(there, said)
    return DONE


def answer_gift(desk, one, other, given):
    """A gift is done."""
    desk.club().gift(one, other, part=given)
    return DONE


def answer_weigh(desk, weight):
    """A weighing is done."""
    desk.club().weigh(weight)
    return DONE


def answer_owes(desk, person):
    """What the person owes."""
    return part_text(owes(desk.club().moment(), person))


def answer_kitty(desk):
    """The kitty."""
    return part_text(kitty(desk.club().moment()))


def answer_sums(desk):
    """The sums of the row of now."""
    return " ".join([part_text(one) for one in sums_ahead(owing(desk.club().moment()))])


def answer_would(desk, there, duties):
    """Who would serve at an evening."""
    return serving_text(served(desk.club().moment(), there, duties))


def answer_right(desk, number, there):
    """How many payments are others, an evening being set right."""
    return str(len(desk.club().set_right(number, there)))


def answer_back(desk, many):
    """A taking back is done."""
    desk.club().back(many)
    return DONE


def answer_payments(desk):
    """All payments."""
    payments = desk.club().payments()
    return words_or_nothing([f"{number} {person} {part_text(paid)}" for number, person, paid in payments])


def answer_show(desk):
    """The text of the moment of now."""
    return moment_text(desk.club().moment())


def answer_new(desk, weight):
    """The desk has a new club."""
    desk.held = Club(weight)
    return DONE


ANSWERS = {
    "come": answer_come,
    "leave": answer_leave,
    "evening": answer_evening,
    "offer": answer_offer,
    "gift": answer_gift,
    "weigh": answer_weigh,
    "owes": answer_owes,
    "kitty": answer_kitty,
    "sums": answer_sums,
    "would": answer_would,
    "right": answer_right,
    "back": answer_back,
    "payments": answer_payments,
    "show": answer_show,
    "new": answer_new,
}


def answered(desk, word, things):
    """The answer to a row, or the name of the class of the refusal of what it asks."""
    answer = ANSWERS[word]
    try:
        return answer(desk, *things)
    except NoWeight:
        return "NoWeight"
    except NoPerson:
        return "NoPerson"
    except NoEvening:
        return "NoEvening"
    except NoDuty:
        return "NoDuty"
    except NoGift:
        return "NoGift"
    except NoFact:
        return "NoFact"
    except NoBack:
        return "NoBack"
    except Taken:
        return "Taken"
    except Beyond:
        return "Beyond"
    except Astray:
        return "Astray"


class Desk:
    """A desk with a club."""

    def __init__(self, *, weight=1):
        self.held = Club(weight)

    def take(self, text):
        """Answers a row of words."""
        word, things = read_row(text)
        return answered(self, word, things)

    def club(self):
        """The desk's club itself."""
        return self.held
