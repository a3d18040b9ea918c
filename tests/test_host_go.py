"""Point 9: go, carried and lay of a host's guests."""

import unittest

from guestworlds.errors import BadCells, BadCount, BadEar, BadShare, NoRoom
from guestworlds.machine import Machine, gone_on
from tests.guests import COUNTING, STOPPING, WAYS, alone, guest_told, low_bundle, marked, new_host
from tests.programs import ALL, NONE, filled, high_machine, low_cells, told

ROWS = [("hear", 3), ("say", 3), ("put", 1, 4), ("load", 2, 1), ("which", 0), ("go", 6), ("call", 7), ("stop",)]


class Go(unittest.TestCase):
    def test_counts(self):
        for way in WAYS:
            for many in (0, 1, 2, 399, 400):
                host = new_host(way=way)
                host.come(COUNTING, [], 1)
                self.assertEqual(host.go(0, many), many)
                self.assertEqual(host.carried(0), alone(ALL, COUNTING, [], many))

    def test_counts_that_cant_be(self):
        host = new_host()
        host.come(COUNTING, [], 1)
        host.go(0, 3)
        before = host.carried(0)
        for many in (-1, 401, -400, 1000, True, False):
            with self.subTest(many):
                self.assertRaises(BadCount, host.go, 0, many)
                self.assertEqual(host.carried(0), before)

    def test_one_that_stopped_refuses_counts_too(self):
        host = new_host()
        host.come(STOPPING, [], 1)
        host.go(0, 1)
        self.assertRaises(BadCount, host.go, 0, 401)
        self.assertRaises(BadCount, host.go, 0, -1)

    def test_it_stops_before_the_count_is_done(self):
        stops = {
            "stop": ([("say", 0), ("stop",)], 2),
            "no row": ([("say", 0)], 2),
            "beyond": ([("say", 0), ("go", 16)], 3),
            "window": ([("put", 1, 17), ("enter", 0)], 2),
        }
        for way in WAYS:
            for why, (rows, many) in stops.items():
                with self.subTest((way, why)):
                    host = new_host(way=way)
                    host.come(filled(rows), [], 1)
                    self.assertEqual(host.go(0, 400), many)
                    before = host.carried(0)
                    self.assertEqual((before[8], before[9]), (why, many))
                    self.assertEqual([host.go(0, 5), host.go(0, 0), host.go(0, 1)], [0, 0, 0])
                    self.assertEqual(host.carried(0), before)

    def test_beyond_is_beyond_its_own_cells(self):
        # Cells of others, in which rows lie, are behind and before its own.
        for rows in ([("go", 16)], [("go", 999)], [("go", 15)] + [0] * 14 + [("put", 0, 1)],
                     [("put", 1, 16), ("load", 0, 1)], [("put", 1, 16), ("store", 1, 1)]):
            host = new_host()
            for cells in (marked(("put", 0, 5)), filled(rows), marked(("put", 0, 6))):
                host.come(cells, [], 1)
            host.go(1, 9)
            self.assertEqual(host.carried(1), alone(ALL, filled(rows), [], 9))
            self.assertEqual(guest_told(host, 1)["why"], "beyond")
            self.assertEqual(host.ground.all_cells()[32:48], marked(("put", 0, 6)))

    def test_others_stay_as_they_are(self):
        host = new_host()
        rows = [("put", 0, 15), ("put", 1, 7), ("store", 0, 1), ("put", 0, 16), ("store", 0, 1)]
        for _ in range(3):
            host.come(filled(rows), [], 1)
        before = [host.carried(0), host.carried(2)]
        self.assertEqual(host.go(1, 400), 5)
        self.assertEqual([host.carried(0), host.carried(2)], before)
        self.assertEqual(host.ground.all_cells()[31], 7)
        self.assertEqual(host.carried(1)[8], "beyond")


class Carried(unittest.TestCase):
    def test_as_a_machine_s(self):
        for way in WAYS:
            for kind in (ALL, (True, True, True, False, True, True, True)):
                cells = low_cells(ROWS, alarm=6, handler=10)
                host = new_host(kind, way)
                host.come(marked(1), [], 1)
                host.come(cells, [31, 32], 1)
                for steps in range(40):
                    self.assertEqual(host.carried(1), alone(kind, cells, [31, 32], steps))
                    host.go(1, 1)

    def test_kinds_of_values(self):
        host = new_host()
        host.come(COUNTING, [1, 2], 1)
        host.go(0, 3)
        kinds = (tuple, tuple, int, bool, tuple, int, tuple, tuple, str, int)
        self.assertIs(type(host.carried(0)), tuple)
        self.assertEqual(tuple(type(part) for part in host.carried(0)), kinds)

    def test_asking_changes_nothing(self):
        host = new_host()
        host.come(COUNTING, [1, 2], 1)
        host.go(0, 5)
        self.assertEqual(host.carried(0), host.carried(0))
        self.assertEqual(host.rooms(), [(0, 0, 16)])

    def test_what_was_carried_stays(self):
        host = new_host()
        host.come(COUNTING, [1, 2], 1)
        host.go(0, 5)
        bundle = host.carried(0)
        expected = alone(ALL, COUNTING, [1, 2], 5)
        host.lay(bundle, 1)
        for number in (0, 1):
            host.go(number, 20)
            host.move(number, 60 - 20 * number)
        self.assertEqual(bundle, expected)
        host.leave(0)
        self.assertEqual(bundle, expected)


class Lay(unittest.TestCase):
    def test_what_a_machine_carried(self):
        for way in WAYS:
            for steps in range(30):
                cells = low_cells(ROWS, alarm=5)
                machine = Machine(ALL, cells, [31, 32])
                machine.go(steps)
                host = new_host(way=way)
                host.come(marked(1), [], 1)
                self.assertEqual(host.lay(machine.carried(), 1), 1)
                self.assertEqual(host.rooms(), [(0, 0, 16), (1, 16, 40)])
                self.assertEqual(host.carried(1), machine.carried())
                self.assertEqual(host.go(1, 20), machine.go(20))
                self.assertEqual(host.carried(1), machine.carried())

    def test_what_a_host_carried(self):
        for way, other_way in (("plain", "through"), ("through", "plain"), ("plain", "plain")):
            for steps in range(30):
                cells = low_cells(ROWS, alarm=5)
                host = new_host(way=way)
                host.come(cells, [31, 32], 1)
                host.go(0, steps)
                other = new_host(way=other_way, wide=57)
                other.come(marked(1, 17), [], 1)
                self.assertEqual(other.lay(host.carried(0), 9), 1)
                self.assertEqual(other.carried(1), host.carried(0))
                self.assertEqual(other.go(1, 20), host.go(0, 20))
                self.assertEqual(other.carried(1), host.carried(0))

    def test_a_machine_goes_on_from_what_a_host_carried(self):
        host = new_host()
        host.come(low_cells(ROWS), [31], 1)
        host.go(0, 9)
        machine = gone_on(ALL, host.carried(0))
        self.assertEqual(machine.carried(), host.carried(0))
        self.assertEqual(machine.go(9), host.go(0, 9))
        self.assertEqual(machine.carried(), host.carried(0))

    def test_of_one_that_stopped(self):
        for rows in ([("stop",)], [0], [("go", 99)], [("put", 0, 99), ("enter", 0)]):
            machine = high_machine(rows, kind=ALL)
            machine.go(9)
            host = new_host()
            host.come(filled(rows), [], 1)
            host.go(0, 9)
            for bundle in (machine.carried(), host.carried(0)):
                number = host.lay(bundle, 3)
                self.assertEqual(host.carried(number), bundle)
                self.assertEqual(host.go(number, 9), 0)
                self.assertEqual(host.carried(number), bundle)

    def test_back_to_the_host_that_it_left(self):
        host = new_host()
        host.come(COUNTING, [5, 6], 1)
        host.go(0, 6)
        bundle = host.carried(0)
        host.leave(0)
        self.assertEqual(host.lay(bundle, 1), 1)
        host.go(1, 6)
        self.assertEqual(host.carried(1), alone(ALL, COUNTING, [5, 6], 12))

    def test_its_room_and_refusals_are_those_of_come(self):
        host = new_host(wide=56)
        host.come(marked(1, 20), [], 1)
        host.come(marked(2, 16), [], 1)
        host.leave(0)
        self.assertEqual(host.lay(alone(ALL, marked(3, 20), [], 0), 1), 2)
        self.assertEqual(host.rooms(), [(1, 20, 16), (2, 0, 20)])
        before = [host.ground.all_cells(), host.rooms()]
        self.assertRaises(NoRoom, host.lay, alone(ALL, marked(4, 21), [], 0), 1)
        self.assertRaises(BadShare, host.lay, alone(ALL, marked(4, 16), [], 0), 10)
        self.assertEqual([host.ground.all_cells(), host.rooms()], before)
        self.assertEqual(host.lay(alone(ALL, marked(4, 20), [], 0), 1), 3)

    def test_cells_and_ears_that_cant_be(self):
        host = new_host()
        bundle = low_bundle([], ear=[4])
        for cells, at in (((0,) * 15, 15), ((0,) * 41, 40), ((0,) * 9 + (1000,) * 9, 9), ((("say", 4),) * 20, 0)):
            with self.assertRaises(BadCells) as caught:
                host.lay((cells, *bundle[1:]), 1)
            self.assertEqual(caught.exception.at, at)
        for ear in ((0,) * 21, (-1,), (5, 1000), (True,)):
            self.assertRaises(BadEar, host.lay, (*bundle[:7], ear, *bundle[8:]), 1)
        self.assertEqual((host.rooms(), host.ground.all_cells()), ([], [0] * 100))

    def test_of_another_kind(self):
        bundle = low_bundle([("which", 3)], kind=NONE)
        host = new_host(ALL)
        host.lay(bundle, 1)
        host.go(0, 1)
        self.assertEqual((guest_told(host, 0)["high"], guest_told(host, 0)["cells"][3]), (True, 1))

    def test_the_same_twice(self):
        bundle = low_bundle(ROWS, ear=[31, 32], alarm=9)
        host = new_host()
        host.lay(bundle, 1)
        host.lay(bundle, 1)
        host.go(0, 9)
        self.assertEqual(host.carried(1), bundle)
        host.go(1, 9)
        self.assertEqual(host.carried(0), host.carried(1))
        self.assertNotEqual(host.carried(0), bundle)


class HandedIn(unittest.TestCase):
    ROWS = [("hear", 0), ("put", 1, 15), ("store", 1, 0), ("go", 0)]

    def test_lists_stay_as_they_were(self):
        cells = filled(self.ROWS)
        ear = [5, 6]
        host = new_host()
        host.come(cells, ear, 1)
        host.go(0, 9)
        host.move(0, 50)
        host.leave(0)
        self.assertEqual((cells, ear), (filled(self.ROWS), [5, 6]))

    def test_lists_may_be_changed_afterwards(self):
        cells = filled(self.ROWS)
        ear = [5, 6]
        host = new_host()
        host.come(cells, ear, 1)
        cells[0] = ("stop",)
        cells.clear()
        ear.append(4)
        ear[0] = 9
        host.go(0, 9)
        self.assertEqual(host.carried(0), alone(ALL, filled(self.ROWS), [5, 6], 9))

    def test_lists_handed_to_two(self):
        cells = filled(self.ROWS)
        ear = [5, 6]
        host = new_host()
        host.come(cells, ear, 1)
        host.come(cells, ear, 1)
        machine = Machine(ALL, cells, ear)
        host.go(0, 9)
        self.assertEqual(host.carried(1), alone(ALL, cells, ear, 0))
        host.go(1, 5)
        self.assertEqual(host.carried(0), alone(ALL, cells, ear, 9))
        self.assertEqual(host.carried(1), alone(ALL, cells, ear, 5))
        self.assertEqual(told(machine)["ear"], (5, 6))

    def test_told_cells_may_be_changed(self):
        host = new_host()
        host.come(marked(("say", 0)), [], 1)
        host.ground.all_cells()[0] = ("stop",)
        host.ground.all_cells().clear()
        host.go(0, 1)
        self.assertEqual(guest_told(host, 0)["said"], (0,))
