"""Checks of what is handed in: each raises the refusal that belongs to it, or does nothing."""

from guestworlds.errors import BadCells, BadCount, BadEar, BadKind, BadShare, BadWay
from guestworlds.rows import LAST_NUMBER, OWN, is_number, is_thing

FEWEST_CELLS = 16
MOST_CELLS = 40
LONGEST_EAR = 20
MOST_STEPS = 400
MOST_SHARE = 9
# The ways of a host: the guests' rows are done by the ground; or the host goes through those in high itself.
PLAIN = "plain"
THROUGH = "through"


def check_kind(kind):
    """Refuses what is not a truth for each of the machine's own rows."""
    if len(kind) != len(OWN) or not all([isinstance(truth, bool) for truth in kind]):
        raise BadKind("a kind is a tuple of seven truths")


def check_cells(cells):
    """Refuses cells with something that can't lie there, too many cells, or too few."""
    for at, thing in enumerate(cells):
        if at == MOST_CELLS or not is_thing(thing):
            raise BadCells(at)
    if len(cells) < FEWEST_CELLS:
        raise BadCells(len(cells))


def check_ear(ear):
    """Refuses an ear that is too long, or in which something else than a number stands."""
    if len(ear) > LONGEST_EAR or not all([is_number(number, 0, LAST_NUMBER) for number in ear]):
        raise BadEar("an ear is a list of at most twenty numbers from 0 to 999")


def check_count(count, least, most):
    """Refuses a count that is not a number from least to most."""
    if not is_number(count, least, most):
        raise BadCount(f"a count from {least} to {most}, not {count}")


def check_steps(many):
    """Refuses more steps than may be asked for at once, or fewer than none."""
    check_count(many, 0, MOST_STEPS)


def check_way(way):
    """Refuses a way that is none of the two."""
    if way not in (PLAIN, THROUGH):
        raise BadWay("a way is plain or through")


def check_share(share):
    """Refuses a share that is not a number from 1 to 9."""
    if not is_number(share, 1, MOST_SHARE):
        raise BadShare(f"a share from 1 to {MOST_SHARE}, not {share}")
