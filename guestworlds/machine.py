"""A machine that stands alone."""

from guestworlds.body import Body, bundled, take_up
from guestworlds.checks import check_cells, check_ear, check_kind, check_steps
from guestworlds.room import room_alone
from guestworlds.steps import let_go


class Machine:
    """A machine of a kind, with cells in which its rows lie, and an ear."""

    def __init__(self, kind, cells, ear):
        check_kind(kind)
        check_cells(cells)
        check_ear(ear)
        self.body = Body(kind, room_alone(cells), ear)

    def go(self, many):
        """Does so many steps, or fewer if it stops, and tells how many."""
        check_steps(many)
        return let_go(self.body, many)

    def said(self):
        """Tells the numbers that it said."""
        return list(self.body.spoken)

    def carried(self):
        """Tells all of it, so that gone_on can go on from there."""
        return bundled(self.body)


def gone_on(kind, bundle):
    """Tells a machine of a kind that goes on from what was carried."""
    machine = Machine(kind, bundle[0], bundle[7])
    take_up(machine.body, bundle)
    return machine
