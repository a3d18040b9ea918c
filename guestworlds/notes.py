"""Cells written as a text, and read from one."""

from guestworlds.checks import check_cells
from guestworlds.errors import BadText
from guestworlds.rows import LIMITS

FIGURES = "0123456789"
MOST_FIGURES = 3


def written(cells):
    """Tells cells as a text, one row each."""
    check_cells(cells)
    return "\n".join([written_thing(thing) for thing in cells])


def written_thing(thing):
    """Tells a number, or a row's word and numbers, as a row of a text."""
    if isinstance(thing, tuple):
        return " ".join([str(part) for part in thing])
    return str(thing)


def read(text):
    """Tells the cells of a text."""
    cells = []
    for at, row in enumerate(text.split("\n")):
        parts = row.split(" ")
        if not is_written(parts):
            raise BadText(at)
        cells.append(thing_of(parts))
    check_cells(cells)
    return cells


def is_written(parts):
    """Tells whether parts are a number, or a word and as many numbers as belong to it."""
    if parts[0] in LIMITS:
        return len(parts) - 1 == len(LIMITS[parts[0]]) and all([is_figures(part) for part in parts[1:]])
    return len(parts) == 1 and is_figures(parts[0])


def is_figures(part):
    """Tells whether a part is a number of one to three figures, without a needless 0."""
    if part == "" or len(part) > MOST_FIGURES or any([figure not in FIGURES for figure in part]):
        return False
    return part == "0" or part[0] != "0"


def thing_of(parts):
    """Tells the thing that parts are which can be."""
    numbers = [int(part) for part in parts if part not in LIMITS]
    return (parts[0], *numbers) if parts[0] in LIMITS else numbers[0]
