"""A ground: the cells upon which hosts stand."""

from guestworlds.checks import check_count, check_kind

FEWEST_CELLS = 16
MOST_CELLS = 200


class Ground:
    """A machine's cells, and what was said to it."""

    def __init__(self, kind, wide):
        check_kind(kind)
        check_count(wide, FEWEST_CELLS, MOST_CELLS)
        self.kind = kind
        self.cells = [0] * wide
        self.spoken = []

    def all_cells(self):
        """Tells the things in all its cells."""
        return list(self.cells)

    def said(self):
        """Tells the numbers that were said to it."""
        return list(self.spoken)
