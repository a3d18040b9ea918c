"""What is refused: an error class for each kind of refusal."""


class WorldError(ValueError):
    """Any refusal."""


class BadCells(WorldError):
    """Cells that can't be; at tells the first of them, or how many there are if they are too few."""

    def __init__(self, at):
        super().__init__(f"cells that can't be, at {at}")
        self.at = at


class BadKind(WorldError):
    """A kind that is not seven truths."""


class BadEar(WorldError):
    """An ear that is not at most twenty numbers from 0 to 999."""


class BadCount(WorldError):
    """A count below or above what it may be."""


class BadWay(WorldError):
    """A way that a host can't go."""


class BadShare(WorldError):
    """A share that is not a number from 1 to 9."""


class NoRoom(WorldError):
    """No room that is free where one is asked for."""


class NoGuest(WorldError):
    """A guest that isn't there."""


class TooMany(WorldError):
    """More guests, or more hosts upon one another, than may be."""


class Busy(WorldError):
    """A guest upon whose room a host may stand."""


class BadText(WorldError):
    """A text that can't be read; row tells the first of its rows that can't be."""

    def __init__(self, row):
        super().__init__(f"a text that can't be read, at row {row}")
        self.row = row
