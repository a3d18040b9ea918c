"""Point 13: guests of guests."""

import unittest

from guestworlds.errors import BadWay, Busy, NoGuest, NoRoom, TooMany
from guestworlds.ground import Ground
from guestworlds.host import Host
from guestworlds.machine import gone_on
from tests.guests import COUNTING, STOPPING, WAYS, alone, guest_told, low_guest, marked, new_host
from tests.programs import ALL, NONE, filled, low_cells

SAYING = filled([("put", 0, 41), ("say", 0), ("go", 1)])


class Tower:
    """Three hosts upon one another: the second upon guest 1 of the first, the third upon guest 0 of the second."""

    def __init__(self, kind=ALL, ways=("plain",) * 3, cells=COUNTING):
        self.ground = Ground(kind, 100)
        self.grounds = [self.ground]
        self.hosts = []
        for at, many in enumerate((40, 20, 16)):
            host = Host(self.grounds[-1], ways[at])
            if at == 0:
                host.come(marked(5), [], 1)
            host.come([8 + at] * many if at < 2 else cells, [6, 7], 1)
            self.hosts.append(host)
            if at < 2:
                self.grounds.append(host.inner(host.rooms()[-1][0]))


class InnerGround(unittest.TestCase):
    def test_its_cells_as_they_lie(self):
        host = new_host()
        host.come(marked(3), [], 1)
        number = low_guest(host, [("put", 3, 39), ("store", 3, 3)], first=0, size=40, place=20)
        host.go(number, 2)
        cells = list(host.carried(number)[0])
        self.assertEqual(cells[39], 39)
        ground = host.inner(number)
        self.assertIsInstance(ground, Ground)
        self.assertEqual(ground.all_cells(), cells)
        self.assertEqual(host.ground.all_cells(), marked(3) + cells + [0] * 44)
        Host(ground, "plain")
        self.assertEqual(ground.all_cells(), cells)

    def test_guests_lie_over_them(self):
        host = new_host()
        host.come(marked(3), [], 1)
        host.come(marked(4, 40), [], 1)
        ground = host.inner(1)
        inner = Host(ground, "plain")
        self.assertEqual(inner.rooms(), [])
        self.assertEqual(inner.come(marked(5, 17), [], 1), 0)
        self.assertEqual(inner.come(marked(6), [], 1), 1)
        self.assertEqual(inner.rooms(), [(0, 0, 17), (1, 17, 16)])
        self.assertEqual(ground.all_cells(), [5] * 17 + [6] * 16 + [4] * 7)
        self.assertEqual(host.ground.all_cells(), [3] * 16 + [5] * 17 + [6] * 16 + [4] * 7 + [0] * 44)
        inner.leave(0)
        self.assertEqual(ground.all_cells(), [0] * 17 + [6] * 16 + [4] * 7)
        self.assertEqual(host.ground.all_cells(), [3] * 16 + [0] * 17 + [6] * 16 + [4] * 7 + [0] * 44)

    def test_0_lies_where_no_room_is_behind_a_move(self):
        host = new_host()
        host.come(marked(4, 40), [], 1)
        inner = Host(host.inner(0), "plain")
        inner.come(marked(5), [], 1)
        inner.move(0, 10)
        self.assertEqual(host.ground.all_cells(), [0] * 10 + [5] * 16 + [0] * 74)
        host.come(marked(4, 40), [], 1)
        inner = Host(host.inner(1), "plain")
        inner.come(marked(5), [], 1)
        inner.close_up()
        self.assertEqual(host.ground.all_cells()[40:80], [5] * 16 + [0] * 24)

    def test_its_last_cells(self):
        host = new_host()
        host.come(marked(4, 17), [], 1)
        host.come(marked(5), [], 1)
        inner = Host(host.inner(0), "plain")
        self.assertRaises(NoRoom, inner.come, marked(6, 18), [], 1)
        inner.come(marked(6), [], 1)
        self.assertRaises(NoRoom, inner.come, marked(6), [], 1)
        self.assertRaises(NoRoom, inner.move, 0, 2)
        inner.move(0, 1)
        self.assertEqual(host.ground.all_cells()[:34], [0] + [6] * 16 + [5] * 16 + [0])

    def test_the_host_upon_it_goes_a_way_of_its_own(self):
        for outer_way in WAYS:
            for way in WAYS:
                host = new_host(NONE, outer_way)
                host.come(STOPPING, [], 1)
                inner = Host(host.inner(0), way)
                inner.come(SAYING, [], 1)
                inner.go(0, 2)
                by_through = way == "through"
                self.assertEqual(guest_told(inner, 0)["said"], (41,) if by_through else ())
                self.assertEqual(host.ground.said(), [] if by_through else [41])
        host.come(STOPPING, [], 1)
        self.assertRaises(BadWay, Host, host.inner(1), "low")

    def test_it_is_of_the_same_kind(self):
        for kind in (NONE, ALL):
            host = new_host(kind, "through")
            host.come(marked(4, 40), [], 1)
            inner = Host(host.inner(0), "through")
            low = low_guest(inner, [("which", 3)])
            inner.go(low, 1)
            self.assertEqual(guest_told(inner, low)["high"], kind == ALL)

    def test_one_that_stopped_has_a_room_too(self):
        host = new_host()
        host.come(STOPPING, [], 1)
        host.go(0, 5)
        inner = Host(host.inner(0), "plain")
        inner.come(COUNTING, [1], 1)
        inner.go(0, 9)
        self.assertEqual(inner.carried(0), alone(ALL, COUNTING, [1], 9))

    def test_told_lists_may_be_changed(self):
        host = new_host(NONE)
        host.come(SAYING, [], 1)
        host.go(0, 2)
        ground = host.inner(0)
        ground.all_cells().clear()
        ground.all_cells()[0] = 7
        ground.said().append(9)
        self.assertEqual((ground.all_cells(), ground.said()), (SAYING, [41]))
        self.assertEqual((host.ground.all_cells()[:16], host.ground.said()), (SAYING, [41]))


class BusyGuests(unittest.TestCase):
    def setUp(self):
        self.host = new_host()
        self.host.come(COUNTING, [], 1)
        self.host.come(COUNTING, [], 1)
        self.host.go(0, 3)
        self.ground = self.host.inner(0)

    def test_it_is_refused(self):
        before = [self.host.rooms(), self.host.ground.all_cells()]
        for many in (0, 1, 400):
            self.assertRaises(Busy, self.host.go, 0, many)
        self.assertRaises(Busy, self.host.leave, 0)
        self.assertRaises(Busy, self.host.carried, 0)
        self.assertRaises(Busy, self.host.inner, 0)
        self.assertEqual([self.host.rooms(), self.host.ground.all_cells()], before)

    def test_it_is_refused_before_what_is_handed_in_next(self):
        self.assertRaises(Busy, self.host.go, 0, 401)
        self.assertRaises(Busy, self.host.go, 0, -1)

    def test_one_that_isnt_there_is_refused_ahead(self):
        for number in (2, -1, 7):
            for call in (self.host.leave, self.host.carried, self.host.inner):
                self.assertRaises(NoGuest, call, number)
            self.assertRaises(NoGuest, self.host.go, number, 1)

    def test_others_are_not_busy(self):
        self.assertEqual(self.host.go(1, 4), 4)
        self.assertEqual(self.host.carried(1), alone(ALL, COUNTING, [], 4))
        self.host.inner(1)
        self.assertRaises(Busy, self.host.go, 1, 4)

    def test_inner_guests_of_its_number_are_not_busy(self):
        inner = Host(self.ground, "plain")
        inner.come(COUNTING, [], 1)
        self.assertEqual(inner.go(0, 4), 4)

    def test_it_stays_busy_behind_inner_guests(self):
        inner = Host(self.ground, "plain")
        inner.come(COUNTING, [], 1)
        inner.leave(0)
        self.assertRaises(Busy, self.host.leave, 0)

    def test_it_counts_among_the_guests(self):
        host = new_host(wide=200)
        for _ in range(6):
            host.come(COUNTING, [], 1)
        host.inner(3)
        self.assertRaises(TooMany, host.come, COUNTING, [], 1)
        self.assertEqual(len(host.rooms()), 6)

    def test_its_room_may_be_moved(self):
        cells = self.ground.all_cells()
        self.assertIsNone(self.host.move(0, 70))
        self.assertEqual(self.host.rooms(), [(0, 70, 16), (1, 16, 16)])
        self.assertEqual(self.ground.all_cells(), cells)
        self.host.close_up()
        self.assertEqual(self.host.rooms(), [(0, 16, 16), (1, 0, 16)])
        self.assertEqual(self.ground.all_cells(), cells)
        self.assertEqual(self.host.ground.all_cells()[16:32], cells)


class Towers(unittest.TestCase):
    def test_four_hosts_are_too_many(self):
        tower = Tower()
        third = tower.hosts[2]
        before = [third.carried(0), third.rooms(), tower.ground.all_cells()]
        self.assertRaises(TooMany, third.inner, 0)
        self.assertRaises(NoGuest, third.inner, 1)
        self.assertEqual([third.carried(0), third.rooms(), tower.ground.all_cells()], before)
        # The guest that was refused isn't busy.
        self.assertEqual(third.go(0, 4), 4)
        self.assertRaises(TooMany, third.inner, 0)

    def test_busy_is_ahead_of_too_many(self):
        tower = Tower()
        self.assertRaises(Busy, tower.hosts[1].inner, 0)
        self.assertRaises(TooMany, tower.hosts[2].inner, 0)

    def test_two_of_a_host_may_be_grounds(self):
        host = new_host()
        hosts = []
        for _ in range(2):
            hosts.append(Host(host.inner(host.come(marked(1, 40), [], 1)), "plain"))
        for inner in hosts:
            for _ in range(2):
                upon = Host(inner.inner(inner.come(marked(2), [], 1)), "plain")
                upon.come(COUNTING, [], 1)
                upon.go(0, 7)
                self.assertEqual(upon.carried(0), alone(ALL, COUNTING, [], 7))
                self.assertRaises(TooMany, upon.inner, 0)

    def test_where_each_lies(self):
        tower = Tower()
        inmost = [5] * 16 + COUNTING + [9] * 4 + [8] * 20 + [0] * 44
        self.assertEqual(tower.ground.all_cells(), inmost)
        self.assertEqual(tower.grounds[1].all_cells(), inmost[16:56])
        self.assertEqual(tower.grounds[2].all_cells(), inmost[16:36])

    def test_rooms_beneath_are_moved_and_closed_up(self):
        for ways in (("plain",) * 3, ("through",) * 3, ("plain", "through", "plain")):
            tower = Tower(ways=ways, cells=filled([("hear", 1), ("put", 0, 15), ("store", 0, 1), ("say", 0), ("go", 0)]))
            first, second, third = tower.hosts
            cells = list(third.carried(0)[0])
            deeds = [
                lambda: first.move(1, 60), lambda: second.move(0, 20), lambda: third.move(0, 4),
                lambda: first.move(1, 17), lambda: first.move(0, 80), lambda: first.close_up(),
                lambda: second.close_up(), lambda: third.move(0, 1), lambda: second.move(0, 3), lambda: third.close_up(),
                lambda: first.leave(0), lambda: first.close_up(),
            ]
            for at, deed in enumerate(deeds):
                third.go(0, 2)
                deed()
                self.assertEqual(third.carried(0), alone(ALL, cells, [6, 7], 2 * at + 2))
                start = sum(host.rooms()[-1][1] for host in tower.hosts)
                self.assertEqual(tower.ground.all_cells()[start:start + 16], list(third.carried(0)[0]))
            self.assertEqual([host.rooms()[-1][1] for host in tower.hosts], [0, 3, 0])

    def test_what_is_said_in_the_inmost_is_told_by_each(self):
        tower = Tower(kind=NONE, cells=SAYING)
        tower.hosts[2].go(0, 2)
        self.assertEqual([ground.said() for ground in tower.grounds], [[41]] * 3)
        self.assertEqual(tower.hosts[2].carried(0)[6], ())
        tower.hosts[2].go(0, 2)
        self.assertEqual([ground.said() for ground in tower.grounds], [[41, 41]] * 3)

    def test_what_is_said_between_is_said_to_the_one_beneath_all(self):
        tower = Tower(kind=NONE, cells=SAYING)
        tower.hosts[1].come(filled([("put", 0, 52), ("say", 0)]), [], 1)
        tower.hosts[1].go(1, 2)
        tower.hosts[2].go(0, 2)
        self.assertEqual(tower.ground.said(), [52, 41])
        self.assertEqual(tower.grounds[1].said(), [52, 41])

    def test_guests_that_say_of_their_own(self):
        tower = Tower(cells=SAYING)
        tower.hosts[2].go(0, 4)
        self.assertEqual([ground.said() for ground in tower.grounds], [[]] * 3)
        self.assertEqual(tower.hosts[2].carried(0)[6], (41, 41))

    def test_carried_and_laid_elsewhere(self):
        cells = low_cells([("hear", 3), ("say", 3), ("store", 2, 3), ("call", 4)], alarm=9, handler=10)
        host = new_host()
        host.come(marked(5), [], 1)
        inner = Host(host.inner(host.come(marked(4, 40), [], 1)), "through")
        inner.come(cells, [1, 2, 3], 1)
        inner.go(0, 8)
        bundle = inner.carried(0)
        self.assertEqual(bundle, alone(ALL, cells, [1, 2, 3], 8))
        # Beside the ground it came from, and in a host upon nothing, and as a machine alone.
        inner.leave(0)
        other = new_host(way="through")
        for place in (host, other, inner):
            number = place.lay(bundle, 2)
            place.go(number, 30)
            self.assertEqual(place.carried(number), alone(ALL, cells, [1, 2, 3], 38))
        machine = gone_on(ALL, bundle)
        machine.go(30)
        self.assertEqual(machine.carried(), inner.carried(1))

    def test_an_outer_guest_laid_within(self):
        tower = Tower()
        bundle = alone(ALL, COUNTING, [9], 11)
        tower.hosts[2].leave(0)
        number = tower.hosts[2].lay(bundle, 1)
        tower.hosts[2].go(number, 11)
        self.assertEqual(tower.hosts[2].carried(number), alone(ALL, COUNTING, [9], 22))
        self.assertRaises(NoRoom, tower.hosts[2].lay, bundle, 1)
