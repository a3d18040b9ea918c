"""Point 11: where holds tells True, a guest is what its machine is alone, whatever else was done."""

import itertools
import unittest

from guestworlds.errors import NoRoom, TooMany
from guestworlds.ground import Ground
from guestworlds.host import Host
from guestworlds.kinds import holds
from guestworlds.machine import Machine, gone_on
from tests.guests import WAYS, alone
from tests.worlds import chance_of, some_cells, some_ear

KINDS = [(kind, way) for way in WAYS for kind in itertools.product((True, False), repeat=7) if holds(kind, way)]


class World:
    """Several hosts of a kind, upon grounds and guests' rooms, and of each guest what it was at first."""

    def __init__(self, kind, ways, chance):
        self.kind = kind
        self.chance = chance
        self.hosts = []
        for _ in range(2):
            self.add(Host(Ground(kind, chance.randrange(100, 201)), chance.choice(ways)))
        self.ways = ways
        # For each guest that isn't busy: its host, its number, its cells and its ear.
        self.guests = []

    def add(self, host):
        self.hosts.append(host)

    def come(self):
        cells, ear = some_cells(self.chance), some_ear(self.chance)
        self.bring(cells, ear, lambda host, share: host.come(cells, ear, share))

    def bring(self, cells, ear, how):
        host = self.chance.choice(self.hosts)
        try:
            number = how(host, self.chance.randrange(1, 10))
        except (NoRoom, TooMany):
            return False
        self.guests.append((host, number, cells, ear))
        return True

    def go(self):
        host, number, *_ = self.chance.choice(self.guests)
        host.go(number, self.chance.choice((0, 1, 2, 3, 7, 20, 50)))

    def turn(self):
        self.chance.choice(self.hosts).turn(self.chance.choice((1, 5, 20, 60)), self.chance.randrange(1, 21))

    def move(self):
        host, number, *_ = self.chance.choice(self.guests)
        try:
            host.move(number, self.chance.randrange(200))
        except NoRoom:
            pass

    def move_any(self):
        host = self.chance.choice(self.hosts)
        for number, first, many in host.rooms():
            try:
                host.move(number, first + self.chance.choice((-5, -1, 1, 4)))
            except NoRoom:
                pass

    def close_up(self):
        self.chance.choice(self.hosts).close_up()

    def carry(self):
        """Carries one off, lets it go on alone now and then, and lays it elsewhere."""
        at = self.chance.randrange(len(self.guests))
        host, number, cells, ear = self.guests[at]
        bundle = host.carried(number)
        if self.chance.random() < 0.3:
            machine = gone_on(self.kind, bundle)
            machine.go(self.chance.randrange(9))
            bundle = machine.carried()
        if self.bring(cells, ear, lambda other, share: other.lay(bundle, share)):
            if self.chance.random() < 0.7:
                host.leave(number)
                self.guests.pop(at)

    def leave(self):
        host, number, *_ = self.guests.pop(self.chance.randrange(len(self.guests)))
        host.leave(number)

    def inner(self):
        at = self.chance.randrange(len(self.guests))
        host, number, *_ = self.guests[at]
        try:
            ground = host.inner(number)
        except TooMany:
            return
        self.guests.pop(at)
        self.add(Host(ground, self.chance.choice(self.ways)))

    def do_something(self):
        if len(self.guests) < 3:
            return self.come()
        deeds = [self.come, self.go, self.go, self.go, self.turn, self.move, self.move_any, self.close_up, self.carry]
        if self.chance.random() < 0.1:
            deeds = [self.leave, self.inner]
        return self.chance.choice(deeds)()


class AsAlone(unittest.TestCase):
    def test_there_are_kinds_that_hold(self):
        self.assertEqual(len(KINDS), 2 + 32)

    def test_whatever_else_was_done(self):
        for kind, way in KINDS:
            ways = [other for other in WAYS if holds(kind, other)]
            for seed in range(3):
                with self.subTest((kind, way, seed)):
                    world = World(kind, ways, chance_of(kind, way, seed))
                    for _ in range(60):
                        world.do_something()
                    self.compare(kind, world)

    def compare(self, kind, world):
        for host, number, cells, ear in world.guests:
            bundle = host.carried(number)
            self.assertEqual(bundle, alone(kind, cells, ear, bundle[9]))

    def test_step_by_step(self):
        for kind, way in KINDS:
            for seed in range(12):
                chance = chance_of("steps", kind, way, seed)
                cells, ear = some_cells(chance), some_ear(chance)
                machine = Machine(kind, cells, ear)
                host = Host(Ground(kind, 100), way)
                host.come([7] * 16, [], 1)
                host.come(cells, ear, 1)
                for _ in range(80):
                    self.assertEqual(host.go(1, 1), machine.go(1))
                    self.assertEqual(host.carried(1), machine.carried())
                self.assertEqual(host.ground.all_cells()[:16], [7] * 16)
                self.assertEqual(host.ground.all_cells()[16 + len(cells):], [0] * (84 - len(cells)))
                self.assertEqual(host.ground.said(), [])


if __name__ == "__main__":
    unittest.main()
