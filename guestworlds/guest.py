"""A guest of a host."""


class Guest:
    """A machine that a host holds, and the share of the steps that it gets."""

    def __init__(self, body, share):
        self.body = body
        self.share = share
        # A guest is busy from when its room is told as a ground.
        self.busy = False


def can_go(guest):
    """Tells whether a guest may get a turn."""
    return not guest.busy and guest.body.why == ""


def steps_by_share(guest):
    """Tells how many steps a guest did by its share."""
    # 2520 is a multiple of each share from 1 to 9, so that nothing is rounded.
    return guest.body.steps * (2520 // guest.share)
