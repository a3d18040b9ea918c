"""Which kinds of machines can hold guests, and how a guest comes to stand unlike where they can't."""

from guestworlds.checks import PLAIN, check_kind, check_way
from guestworlds.rows import OWN

# Of the machine's own rows those that a kind must catch, by each way.
NEEDED_BY_PLAIN = ("say", "hear", "which", "enter", "alarm", "stop")
NEEDED_BY_THROUGH = ("say", "hear")

# What stands before a row that gives a guest away. By plain it does so in high already, and behind the first row
# each of the needed rows does something; by through only in low.
WAY_IN_HIGH = (("put", 0, 1),)
WAY_INTO_LOW = (("put", 1, 16), ("put", 2, 3), ("enter", 0))
MANY_CELLS = 16


def holds(kind, way):
    """Tells whether all guests run as their machines alone."""
    check_kind(kind)
    check_way(way)
    return len(lacking(kind, way)) == 0


def unlike(kind, way):
    """Tells cells, an ear, and steps behind which that guest stands unlike; None if all guests are alike."""
    if holds(kind, way):
        return None
    word = lacking(kind, way)[0]
    before = WAY_IN_HIGH if way == PLAIN else WAY_INTO_LOW
    rows = [*before, own_row(word)]
    return rows + [0] * (MANY_CELLS - len(rows)), [2], len(rows)


def lacking(kind, way):
    """Tells the words of the rows that should be caught, but aren't."""
    needed = NEEDED_BY_PLAIN if way == PLAIN else NEEDED_BY_THROUGH
    return [word for word, caught in zip(OWN, kind) if word in needed and not caught]


def own_row(word):
    """Tells a row of this word, of box 0 if it has one."""
    return (word,) if word == "stop" else (word, 0)
