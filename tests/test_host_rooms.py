"""Point 8: hosts, and the rooms of their guests."""

import unittest

from guestworlds.errors import BadCells, BadCount, BadEar, BadShare, BadWay, NoGuest, NoRoom, TooMany
from guestworlds.ground import Ground
from guestworlds.host import Host
from tests.guests import WAYS, low_bundle, marked, new_host
from tests.programs import ALL, NONE, high_machine


def all_of(host):
    """All that can be told of a host and its ground."""
    rooms = host.rooms()
    return rooms, host.ground.all_cells(), host.ground.said(), [host.carried(number) for number, *_ in rooms]


def packed(*parts, wide=100):
    """A ground's cells of (mark, how many), and 0 behind them."""
    cells = [mark for mark, many in parts for _ in range(many)]
    return cells + [0] * (wide - len(cells))


class Ways(unittest.TestCase):
    def test_ways_that_can_be(self):
        for way in WAYS:
            for kind in (NONE, ALL):
                self.assertEqual(Host(Ground(kind, 16), way).rooms(), [])

    def test_ways_that_cant_be(self):
        for way in ("", "Plain", "THROUGH", "plain ", " through", "plainthrough", "p", "low", "through\n"):
            with self.subTest(way):
                self.assertRaises(BadWay, Host, Ground(ALL, 16), way)


class Come(unittest.TestCase):
    def setUp(self):
        self.host = new_host()
        self.ground = self.host.ground

    def test_its_number_room_and_cells(self):
        cells = [("say", 1), 5] + [9] * 16
        self.assertEqual(self.host.come(cells, [3], 1), 0)
        self.assertEqual(self.host.rooms(), [(0, 0, 18)])
        self.assertEqual(self.ground.all_cells(), cells + [0] * 82)
        self.assertEqual(self.host.carried(0), (
            tuple(cells), (0, 0, 0, 0), 0, True, (0, 18), 0, (), (3,), "", 0,
        ))

    def test_the_next_ones_lie_behind(self):
        for at, many in enumerate((16, 40, 17)):
            self.assertEqual(self.host.come(marked(at + 1, many), [], 9), at)
        self.assertEqual(self.host.rooms(), [(0, 0, 16), (1, 16, 40), (2, 56, 17)])
        self.assertEqual(self.ground.all_cells(), packed((1, 16), (2, 40), (3, 17)))

    def between(self, many):
        """Where a guest of so many cells comes: 20 are free from 16 on, and 44 from 56 on."""
        host = new_host()
        for wide in (16, 20, 20):
            host.come(marked(1, wide), [], 1)
        host.leave(1)
        host.come(marked(2, many), [], 1)
        return host.rooms()[-1][1]

    def test_between_others(self):
        self.assertEqual([self.between(many) for many in (16, 19, 20)], [16, 16, 16])

    def test_beside_others_where_it_does_not_fit_between(self):
        self.assertEqual([self.between(many) for many in (21, 22, 40)], [56, 56, 56])

    def test_at_the_ground_s_first_cells(self):
        self.host.come(marked(1, 20), [], 1)
        self.host.come(marked(2, 20), [], 1)
        self.host.leave(0)
        self.assertEqual(self.host.come(marked(3, 21), [], 1), 2)
        self.assertEqual(self.host.come(marked(4, 20), [], 1), 3)
        self.assertEqual(self.host.rooms(), [(1, 20, 20), (2, 40, 21), (3, 0, 20)])

    def test_two_between_the_same(self):
        self.host.come(marked(1, 40), [], 1)
        self.host.come(marked(2, 16), [], 1)
        self.host.leave(0)
        self.host.come(marked(3, 18), [], 1)
        self.host.come(marked(4, 22), [], 1)
        self.assertEqual(self.host.rooms(), [(1, 40, 16), (2, 0, 18), (3, 18, 22)])

    def test_a_gap_that_is_not_at_a_room_s_end(self):
        self.host.come(marked(1, 16), [], 1)
        self.host.move(0, 17)
        self.host.come(marked(2, 16), [], 1)
        self.host.come(marked(3, 17), [], 1)
        self.assertEqual(self.host.rooms(), [(0, 17, 16), (1, 0, 16), (2, 33, 17)])

    def test_at_the_ground_s_last_cells(self):
        for wide, many in ((16, 16), (40, 40)):
            host = new_host(wide=wide)
            host.come(marked(1, many), [], 1)
            self.assertEqual(host.ground.all_cells(), [1] * wide)
        host = new_host(wide=57)
        host.come(marked(1, 40), [], 1)
        host.come(marked(2, 17), [], 1)
        self.assertEqual(host.rooms(), [(0, 0, 40), (1, 40, 17)])

    def test_no_room_by_one_cell(self):
        host = new_host(wide=56)
        host.come(marked(1, 40), [], 1)
        before = all_of(host)
        self.assertRaises(NoRoom, host.come, marked(2, 17), [], 1)
        self.assertEqual(all_of(host), before)
        self.assertEqual(host.come(marked(2, 16), [], 1), 1)

    def test_no_room_between_or_behind_others(self):
        host = new_host(wide=55)
        for many in (16, 17, 16):
            host.come(marked(1, many), [], 1)
        host.leave(1)
        # 17 cells are free from 16 on, and 6 from 49 on.
        self.assertRaises(NoRoom, host.come, marked(2, 18), [], 1)
        self.assertEqual(host.come(marked(2, 17), [], 1), 3)
        self.assertEqual(host.rooms(), [(0, 0, 16), (2, 33, 16), (3, 16, 17)])

    def test_no_room_in_a_ground_that_is_too_small(self):
        host = new_host(wide=16)
        self.assertRaises(NoRoom, host.come, marked(1, 17), [], 1)
        self.assertRaises(NoRoom, host.come, marked(1, 40), [], 1)
        self.assertEqual(host.come(marked(1, 16), [], 1), 0)

    def test_the_sixth_and_the_seventh(self):
        host = new_host(wide=200)
        for number in range(6):
            self.assertEqual(host.come(marked(1), [], 1), number)
        before = all_of(host)
        self.assertRaises(TooMany, host.come, marked(1), [], 1)
        self.assertRaises(TooMany, host.lay, low_bundle([]), 1)
        self.assertEqual(all_of(host), before)
        host.leave(2)
        self.assertEqual(host.come(marked(1), [], 1), 6)
        self.assertRaises(TooMany, host.come, marked(1), [], 1)
        host.leave(6)
        self.assertEqual(host.lay(high_machine([0]).carried(), 1), 7)

    def test_shares(self):
        for share in range(1, 10):
            host = new_host()
            self.assertEqual(host.come(marked(1), [], share), 0)
            self.assertEqual(host.lay(low_bundle([]), share), 1)
        for share in (0, 10, -1, -9, 100, True, False):
            with self.subTest(share):
                self.assertRaises(BadShare, self.host.come, marked(1), [], share)
                self.assertRaises(BadShare, self.host.lay, low_bundle([]), share)
        self.assertEqual((self.host.rooms(), self.ground.all_cells()), ([], [0] * 100))

    def test_a_refused_guest_takes_no_number(self):
        self.assertRaises(BadCells, self.host.come, [0], [], 1)
        self.assertRaises(BadEar, self.host.come, [0] * 16, [-1], 1)
        self.assertRaises(BadShare, self.host.come, [0] * 16, [], 0)
        self.host.come([0] * 40, [], 1)
        self.host.come([0] * 40, [], 1)
        self.assertRaises(NoRoom, self.host.come, [0] * 40, [], 1)
        self.assertEqual(self.host.come([0] * 20, [], 1), 2)

    def test_no_number_twice(self):
        numbers = []
        for _ in range(9):
            numbers.append(self.host.come(marked(1), [], 1))
            self.host.leave(numbers[-1])
        self.assertEqual(numbers, list(range(9)))


class FirstRefused(unittest.TestCase):
    """What is handed in first is refused first; TooMany and NoRoom behind all."""

    def setUp(self):
        self.full = new_host(wide=200)
        for _ in range(6):
            self.full.come(marked(1), [], 1)
        self.narrow = new_host(wide=16)
        self.narrow.come(marked(1), [], 1)

    def test_come(self):
        for host in (new_host(), self.full, self.narrow):
            self.assertRaises(BadCells, host.come, [0], [-1], 0)
            self.assertRaises(BadCells, host.come, [0], [], 1)
            self.assertRaises(BadEar, host.come, [0] * 16, [-1], 0)
            self.assertRaises(BadEar, host.come, [0] * 16, [-1], 1)
            self.assertRaises(BadShare, host.come, [0] * 16, [], 0)

    def test_lay(self):
        bundle = low_bundle([])
        for host in (new_host(), self.full, self.narrow):
            cells = ((0,) * 15, *bundle[1:])
            ear = (*bundle[:7], (-1,), *bundle[8:])
            self.assertRaises(BadCells, host.lay, (*cells[:7], (-1,), *cells[8:]), 0)
            self.assertRaises(BadCells, host.lay, cells, 1)
            self.assertRaises(BadEar, host.lay, ear, 0)
            self.assertRaises(BadEar, host.lay, ear, 1)
            self.assertRaises(BadShare, host.lay, bundle, 10)

    def test_too_many_ahead_of_no_room(self):
        # Six guests of 16 cells leave none free.
        host = new_host(wide=96)
        for _ in range(6):
            host.come(marked(1), [], 1)
        self.assertRaises(TooMany, host.come, marked(1), [], 1)
        self.assertRaises(TooMany, host.lay, low_bundle([]), 1)

    def test_move(self):
        for host in (self.full, self.narrow):
            self.assertRaises(NoGuest, host.move, 6, -1)
            self.assertRaises(NoRoom, host.move, 0, -1)

    def test_go_and_turn(self):
        self.assertRaises(NoGuest, self.full.go, 6, 401)
        self.assertRaises(BadCount, self.full.go, 5, 401)
        self.assertRaises(BadCount, self.full.turn, 401, 1)
        self.assertRaises(BadCount, self.full.turn, 400, 21)


class Leave(unittest.TestCase):
    def test_its_room_is_free_and_0_lies_there(self):
        host = new_host()
        for at, many in enumerate((16, 20, 18)):
            host.come(marked(at + 1, many), [], 1)
        self.assertIsNone(host.leave(1))
        self.assertEqual(host.rooms(), [(0, 0, 16), (2, 36, 18)])
        self.assertEqual(host.ground.all_cells(), packed((1, 16), (0, 20), (3, 18)))
        host.leave(0)
        self.assertEqual(host.ground.all_cells(), packed((0, 36), (3, 18)))
        host.leave(2)
        self.assertEqual((host.rooms(), host.ground.all_cells()), ([], [0] * 100))

    def test_rows_are_gone_too(self):
        host = new_host()
        host.come([("stop",)] * 40, [], 1)
        host.go(0, 1)
        host.leave(0)
        self.assertEqual(host.ground.all_cells(), [0] * 100)

    def test_what_it_stored_behind_a_move_is_gone_too(self):
        host = new_host()
        host.come([("put", 1, 15), ("store", 1, 1)] + [0] * 14, [], 1)
        host.move(0, 84)
        host.go(0, 2)
        self.assertEqual(host.ground.all_cells()[99], 15)
        host.leave(0)
        self.assertEqual(host.ground.all_cells(), [0] * 100)

    def test_what_was_said_to_the_ground_stays(self):
        host = new_host(NONE)
        host.come([("say", 0)] * 16, [], 1)
        host.go(0, 2)
        host.leave(0)
        self.assertEqual(host.ground.said(), [0, 0])


class WhereNoGuestIs(unittest.TestCase):
    def test_each_method_refuses(self):
        host = new_host()
        for _ in range(3):
            host.come(marked(1), [], 1)
        host.leave(1)
        before = all_of(host)
        for number in (1, 3, 4, -1, -2, -3, 6, 100, True, False):
            with self.subTest(number):
                self.assertRaises(NoGuest, host.leave, number)
                self.assertRaises(NoGuest, host.move, number, 60)
                self.assertRaises(NoGuest, host.go, number, 1)
                self.assertRaises(NoGuest, host.carried, number)
                self.assertRaises(NoGuest, host.inner, number)
        self.assertEqual(all_of(host), before)

    def test_none_is_there_at_first(self):
        host = new_host()
        for call in (host.leave, host.carried, host.inner):
            self.assertRaises(NoGuest, call, 0)
        self.assertRaises(NoGuest, host.move, 0, 0)
        self.assertRaises(NoGuest, host.go, 0, 1)


class Rooms(unittest.TestCase):
    def test_rising_by_the_guests(self):
        host = new_host()
        for _ in range(3):
            host.come(marked(1), [], 1)
        host.move(0, 80)
        host.move(2, 0)
        self.assertEqual(host.rooms(), [(0, 80, 16), (1, 16, 16), (2, 0, 16)])

    def test_the_list_may_be_changed(self):
        host = new_host()
        host.come(marked(1), [], 1)
        host.rooms().clear()
        host.rooms().append((1, 2, 3))
        self.assertEqual(host.rooms(), [(0, 0, 16)])
        self.assertIs(type(host.rooms()), list)
        self.assertIs(type(host.rooms()[0]), tuple)


class Move(unittest.TestCase):
    def setUp(self):
        self.host = new_host()
        self.first = [("put", 0, at) for at in range(20)]
        self.host.come(self.first, [], 1)
        self.host.come(marked(2, 16), [], 1)

    def lies(self, *parts):
        cells = [0] * 100
        for first, things in parts:
            cells[first:first + len(things)] = things
        self.assertEqual(self.host.ground.all_cells(), cells)

    def test_to_where_it_is_free(self):
        self.assertIsNone(self.host.move(0, 50))
        self.assertEqual(self.host.rooms(), [(0, 50, 20), (1, 20, 16)])
        self.lies((50, self.first), (20, marked(2, 16)))

    def test_beside_others_and_to_the_last_cells(self):
        self.host.move(0, 36)
        self.lies((36, self.first), (20, marked(2, 16)))
        self.host.move(0, 80)
        self.lies((80, self.first), (20, marked(2, 16)))
        self.host.move(0, 0)
        self.lies((0, self.first), (20, marked(2, 16)))

    def test_over_its_own_room_upwards_and_downwards(self):
        self.host.leave(1)
        for first in (1, 20, 39, 38, 19, 2, 0, 0):
            self.host.move(0, first)
            self.assertEqual(self.host.rooms(), [(0, first, 20)])
            self.lies((first, self.first))

    def test_the_last_one_over_its_own_room(self):
        for first in (21, 40, 30, 21, 20):
            self.host.move(1, first)
            self.lies((0, self.first), (first, marked(2, 16)))

    def test_where_it_is(self):
        self.host.move(1, 20)
        self.lies((0, self.first), (20, marked(2, 16)))

    def test_where_it_isnt_free(self):
        before = all_of(self.host)
        for first in (1, 16, 19, 20, 35, -1, -20, -100, 81, 99, 100, 1000):
            with self.subTest(first):
                self.assertRaises(NoRoom, self.host.move, 0, first)
                self.assertEqual(all_of(self.host), before)
        for first in (0, 4, 19, -1, -16, 85, 100):
            with self.subTest(first):
                self.assertRaises(NoRoom, self.host.move, 1, first)
                self.assertEqual(all_of(self.host), before)

    def test_it_goes_on_where_it_is(self):
        for first in (36, 80, 60, 41):
            self.host.move(0, first)
            self.host.go(0, 1)
        self.assertEqual(self.host.carried(0)[1:3], ((3, 0, 0, 0), 4))

    def test_room_is_free_where_it_was(self):
        self.host.move(0, 80)
        self.assertEqual(self.host.come(marked(3, 20), [], 1), 2)
        self.assertEqual(self.host.rooms()[2], (2, 0, 20))


class CloseUp(unittest.TestCase):
    def test_the_order_is_that_in_which_they_lie(self):
        host = new_host()
        for at, many in enumerate((16, 20, 18)):
            host.come(marked(at + 1, many), [], 1)
        host.move(0, 82)
        host.move(1, 60)
        host.move(2, 1)
        self.assertIsNone(host.close_up())
        self.assertEqual(host.rooms(), [(0, 38, 16), (1, 18, 20), (2, 0, 18)])
        self.assertEqual(host.ground.all_cells(), packed((3, 18), (2, 20), (1, 16)))

    def test_by_fewer_cells_than_a_room_has(self):
        host = new_host()
        first = [("put", 0, at) for at in range(20)]
        host.come(first, [], 1)
        host.come(marked(2), [], 1)
        host.move(1, 23)
        host.move(0, 1)
        host.close_up()
        self.assertEqual(host.rooms(), [(0, 0, 20), (1, 20, 16)])
        self.assertEqual(host.ground.all_cells(), first + [2] * 16 + [0] * 64)

    def test_where_they_lie_at_the_begin(self):
        host = new_host()
        host.come(marked(1), [], 1)
        host.come(marked(2), [], 1)
        before = all_of(host)
        host.close_up()
        self.assertEqual(all_of(host), before)

    def test_where_none_is_there(self):
        host = new_host()
        host.close_up()
        self.assertEqual((host.rooms(), host.ground.all_cells()), ([], [0] * 100))

    def test_room_behind_leave(self):
        host = new_host(wide=60)
        for _ in range(3):
            host.come(marked(1, 20), [], 1)
        host.leave(0)
        host.leave(2)
        self.assertRaises(NoRoom, host.come, marked(2, 40), [], 1)
        host.close_up()
        self.assertEqual(host.come(marked(2, 40), [], 1), 3)
        self.assertEqual(host.rooms(), [(1, 0, 20), (3, 20, 40)])


class TwoHosts(unittest.TestCase):
    def test_a_room_of_another_host_upon_the_ground_is_not_free(self):
        ground = Ground(ALL, 60)
        one = Host(ground, "plain")
        other = Host(ground, "through")
        self.assertEqual([one.come(marked(1), [], 1), other.come(marked(2), [], 1)], [0, 0])
        self.assertEqual([one.rooms(), other.rooms()], [[(0, 0, 16)], [(0, 16, 16)]])
        self.assertRaises(NoRoom, other.move, 0, 15)
        one.leave(0)
        other.close_up()
        self.assertEqual(ground.all_cells(), packed((2, 16), wide=60))
