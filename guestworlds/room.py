"""Rooms: cells beside one another, and the rooms that are taken within them."""

from guestworlds.errors import NoRoom
from guestworlds.rows import is_number


class Room:
    """The cells of a machine that stands alone, of a ground, or of a guest."""

    def __init__(self, floor, beneath, first, wide):
        # The floor is one list for all rooms upon one another, so that each change is seen by all of them.
        self.floor = floor
        self.beneath = beneath
        self.first = first
        self.wide = wide
        self.taken = []

    def start(self):
        """Tells where on the floor the first cell is."""
        # It is asked for anew each time, since any room beneath may have been moved.
        if self.beneath is None:
            return self.first
        return self.beneath.start() + self.first

    def thing_at(self, cell):
        """Tells what lies in a cell."""
        return self.floor[self.start() + cell]

    def all_things(self):
        """Tells the things in all cells."""
        start = self.start()
        return self.floor[start:start + self.wide]

    def put_things(self, cell, things):
        """Lays things into a cell and those behind it."""
        start = self.start() + cell
        self.floor[start:start + len(things)] = list(things)


def room_alone(things):
    """Tells a room in which these things lie, upon no other."""
    return Room(list(things), None, 0, len(things))


def take_room(room, things):
    """Takes the first room that is free within a room, and lays things there."""
    first = first_free(room, len(things))
    taken = Room(room.floor, room, first, len(things))
    room.taken.append(taken)
    taken.put_things(0, things)
    return taken


def first_free(room, wide):
    """Tells the first cell behind which so many are free."""
    for first in range(room.wide - wide + 1):
        if is_free(first, wide, room.taken):
            return first
    raise NoRoom(f"no {wide} cells beside one another are free")


def is_free(first, wide, others):
    """Tells whether so many cells behind a first are none of the others'."""
    return not any([first < other.first + other.wide and other.first < first + wide for other in others])


def give_back(taken):
    """Makes a room that was taken free."""
    taken.put_things(0, [0] * taken.wide)
    taken.beneath.taken.remove(taken)


def move_room(taken, first):
    """Moves a room that was taken to a first cell."""
    room = taken.beneath
    others = [other for other in room.taken if other != taken]
    if not is_number(first, 0, room.wide - taken.wide) or not is_free(first, taken.wide, others):
        raise NoRoom(f"the cells from {first} on aren't free")
    things = taken.all_things()
    taken.first = first
    taken.put_things(0, things)
    clear_beside(room)


def clear_beside(room):
    """Lays 0 into all cells of a room in which no room is taken."""
    for cell in range(room.wide):
        if is_free(cell, 1, room.taken):
            room.put_things(cell, [0])


def close_up_rooms(room):
    """Moves all rooms that are taken to the begin, in the order in which they lie."""
    first = 0
    for taken in sorted(room.taken, key=lambda other: other.first):
        move_room(taken, first)
        first += taken.wide
