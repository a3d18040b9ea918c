"""A host: it holds whole machines as its guests, each in a room of its ground."""

from guestworlds.body import Body, bundled, take_up
from guestworlds.checks import THROUGH, check_cells, check_count, check_ear, check_share, check_steps, check_way
from guestworlds.errors import Busy, NoGuest, TooMany
from guestworlds.ground import ground_within
from guestworlds.guest import Guest, can_go, steps_by_share
from guestworlds.room import close_up_rooms, give_back, move_room, take_room
from guestworlds.rows import is_number
from guestworlds.steps import let_go

MOST_GUESTS = 6
MOST_HOSTS = 3
LONGEST_TURN = 20


class Host:
    """It stands upon a ground and goes a way."""

    def __init__(self, ground, way):
        check_way(way)
        self.ground = ground
        self.way = way
        self.guests = {}
        self.next_number = 0

    def come(self, cells, ear, share):
        """Brings a guest that begins, and tells its number."""
        check_cells(cells)
        check_ear(ear)
        check_share(share)
        return self.bring(cells, ear, share)

    def lay(self, bundle, share):
        """Brings a guest that goes on from what was carried, and tells its number."""
        check_cells(bundle[0])
        check_ear(bundle[7])
        check_share(share)
        number = self.bring(bundle[0], bundle[7], share)
        take_up(self.guests[number].body, bundle)
        return number

    def bring(self, cells, ear, share):
        """Takes a room for a guest, and tells the number that it gets."""
        if len(self.guests) == MOST_GUESTS:
            raise TooMany(f"{MOST_GUESTS} guests are there")
        body = Body(self.ground.kind, take_room(self.ground.room, cells), ear)
        body.ground = self.ground
        body.through = self.way == THROUGH
        number = self.next_number
        self.guests[number] = Guest(body, share)
        self.next_number += 1
        return number

    def leave(self, number):
        """Lets a guest leave; its room is free then."""
        give_back(self.idle_guest(number).body.room)
        del self.guests[number]

    def rooms(self):
        """Tells the number of each guest, its room's first cell and how many cells that has."""
        return [(number, guest.body.room.first, guest.body.room.wide) for number, guest in self.guests.items()]

    def move(self, number, first):
        """Moves a guest's room to a first cell."""
        move_room(self.any_guest(number).body.room, first)

    def close_up(self):
        """Moves all rooms to the begin."""
        close_up_rooms(self.ground.room)

    def go(self, number, many):
        """Lets a guest do so many steps, or fewer if it stops, and tells how many."""
        guest = self.idle_guest(number)
        check_steps(many)
        return let_go(guest.body, many)

    def carried(self, number):
        """Tells all of a guest, so that lay or gone_on can go on from there."""
        return bundled(self.idle_guest(number).body)

    def turn(self, many, each):
        """Shares steps among the guests, and tells which guest did how many in turn."""
        check_steps(many)
        check_count(each, 1, LONGEST_TURN)
        turns = []
        left = many
        number = self.next_in_turn()
        while left > 0 and number is not None:
            done = let_go(self.guests[number].body, min(each, left))
            turns.append((number, done))
            left -= done
            number = self.next_in_turn()
        return turns

    def next_in_turn(self):
        """Tells the guest that did the fewest steps by its share, None if none can go on."""
        ready = [(steps_by_share(guest), number) for number, guest in self.guests.items() if can_go(guest)]
        return None if len(ready) == 0 else min(ready)[1]

    def inner(self, number):
        """Tells the ground that a guest's room is; the guest is busy from then on."""
        guest = self.idle_guest(number)
        # The host that is to stand upon that ground is the one behind this, which counts too.
        if self.ground.hosts_beneath + 2 > MOST_HOSTS:
            raise TooMany(f"{MOST_HOSTS} hosts stand upon one another")
        guest.busy = True
        return ground_within(self.ground, guest.body.room)

    def any_guest(self, number):
        """Tells the guest of a number, be it busy or not."""
        # True would be taken for 1, but it is no number.
        if not is_number(number, 0, self.next_number) or number not in self.guests:
            raise NoGuest(f"no guest {number} is there")
        return self.guests[number]

    def idle_guest(self, number):
        """Tells the guest of a number, which must not be busy."""
        guest = self.any_guest(number)
        if guest.busy:
            raise Busy(f"a host may stand upon the room of guest {number}")
        return guest
