"""A ground: the cells upon which hosts stand."""

from guestworlds.checks import check_count, check_kind
from guestworlds.room import room_alone

FEWEST_CELLS = 16
MOST_CELLS = 200


class Ground:
    """A machine's cells, and what was said to it."""

    def __init__(self, kind, wide):
        check_kind(kind)
        check_count(wide, FEWEST_CELLS, MOST_CELLS)
        self.kind = kind
        self.room = room_alone([0] * wide)
        self.spoken = []
        self.hosts_beneath = 0

    def all_cells(self):
        """Tells the things in all its cells."""
        return self.room.all_things()

    def said(self):
        """Tells the numbers that were said to it."""
        return list(self.spoken)


def ground_within(ground, room):
    """Tells the ground that a room of a ground is."""
    inner = Ground(ground.kind, room.wide)
    inner.room = room
    # One list for all of them: what is said to one is said to the ground beneath all.
    inner.spoken = ground.spoken
    inner.hosts_beneath = ground.hosts_beneath + 1
    return inner
