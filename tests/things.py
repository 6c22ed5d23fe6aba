"""Things of all kinds that are handed in where something else is asked for."""


class Stranger:
    """A thing of which nothing at all is known."""


class Flatterer:
    """A thing that says of everything that it is equal to it."""

    def __eq__(self, other):
        return True


def strangers():
    """Things that are no whole number, no part and no text of one."""
    return [
        None, True, False, "", "a", "1/2/3", " ", b"", b"1", [], [1], [1, 2], [0, 1], (), (1,), (1, 2, 3),
        ((1, 2), 3), (1, (2, 3)), ((1, 2),), ("1", "2"), (None, 1), (1, None), (True, 1), (1, True), (False, 1),
        {}, {1: 2}, {"above": 1, "below": 2}, set(), {1, 2}, frozenset((1, 2)), range(2), len, int, Stranger,
        Stranger(), iter(()), ValueError("1"), object(),
    ]


def no_whole_numbers():
    """Things that are no whole numbers; a true part is none either."""
    return strangers() + [(1, 2), (0, 1), "0", "1", "12"]
