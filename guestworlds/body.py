"""What a machine is while it goes on, and how that is carried from one to another."""


class Body:
    """All that a step of a machine reads and changes."""

    def __init__(self, kind, room, ear):
        self.kind = kind
        self.room = room
        # A guest's body has the ground that does its rows, and tells whether a host goes through them in high.
        self.ground = None
        self.through = False
        self.boxes = [0, 0, 0, 0]
        self.place = 0
        self.high = True
        self.window = (0, room.wide)
        self.alarm = 0
        self.spoken = []
        self.ear = list(ear)
        self.why = ""
        self.steps = 0


def bundled(body):
    """Tells all of a body, as it is carried."""
    return (
        tuple(body.room.all_things()),
        tuple(body.boxes),
        body.place,
        body.high,
        body.window,
        body.alarm,
        tuple(body.spoken),
        tuple(body.ear),
        body.why,
        body.steps,
    )


def take_up(body, bundle):
    """Makes a body of the cells and the ear that were carried stand as the rest of it tells."""
    body.boxes = list(bundle[1])
    body.place, body.high, body.window, body.alarm = bundle[2:6]
    body.spoken = list(bundle[6])
    body.why, body.steps = bundle[8:]
