"""Point 7: go, said, carried and gone_on; point 1, what is handed in and what is told."""

import unittest

from guestworlds.errors import BadCount
from guestworlds.machine import Machine, gone_on
from tests.programs import ALL, NONE, filled, high_machine, low_cells, low_machine, told

ROUND = [("put", 0, 1), ("say", 0), ("hear", 1), ("go", 0)]


class Go(unittest.TestCase):
    def test_counts(self):
        for many in (0, 1, 2, 399, 400):
            machine = high_machine([("go", 0)])
            self.assertEqual(machine.go(many), many)
            self.assertEqual(told(machine)["steps"], many)

    def test_counts_that_cant_be(self):
        machine = high_machine(ROUND)
        machine.go(2)
        before = machine.carried()
        for many in (-1, 401, -400, 1000, True, False):
            with self.subTest(many):
                self.assertRaises(BadCount, machine.go, many)
                self.assertEqual(machine.carried(), before)

    def test_a_machine_that_stopped_refuses_counts_too(self):
        machine = high_machine([("stop",)])
        machine.go(1)
        self.assertRaises(BadCount, machine.go, 401)
        self.assertRaises(BadCount, machine.go, -1)

    def test_a_count_of_0_does_nothing(self):
        machine = high_machine([0])
        before = machine.carried()
        self.assertEqual(machine.go(0), 0)
        self.assertEqual(machine.carried(), before)

    def test_it_stops_before_the_count_is_done(self):
        stops = {
            "stop": ([("say", 0), ("stop",)], 2),
            "no row": ([("say", 0)], 2),
            "beyond": ([("say", 0), ("go", 16)], 3),
            "window": ([("put", 1, 17), ("enter", 0)], 2),
        }
        for why, (rows, many) in stops.items():
            with self.subTest(why):
                machine = high_machine(rows)
                self.assertEqual(machine.go(400), many)
                state = told(machine)
                self.assertEqual((state["why"], state["steps"]), (why, many))
                # Let go on again it does nothing.
                before = machine.carried()
                self.assertEqual([machine.go(5), machine.go(0), machine.go(1)], [0, 0, 0])
                self.assertEqual(machine.carried(), before)

    def test_it_stops_just_when_the_count_is_done(self):
        machine = high_machine([("say", 0), ("stop",)])
        self.assertEqual([machine.go(1), machine.go(1), machine.go(1)], [1, 1, 0])

    def test_steps_are_counted_in_all(self):
        machine = low_machine([("put", 3, 5), ("call", 1)])
        self.assertEqual(machine.go(400), 3)
        self.assertEqual(told(machine)["steps"], 10)

    def test_one_by_one_as_at_once(self):
        cells = low_cells([("put", 3, 5), ("say", 3), ("hear", 2), ("go", 0)], alarm=9, handler=10)
        one_by_one = Machine(NONE, cells, [1, 2, 3])
        for steps in range(1, 60):
            self.assertEqual(one_by_one.go(1), 1)
            at_once = Machine(NONE, cells, [1, 2, 3])
            self.assertEqual(at_once.go(steps), steps)
            self.assertEqual(one_by_one.carried(), at_once.carried())


class Said(unittest.TestCase):
    def test_what_it_said_so_far(self):
        machine = high_machine([("put", 0, 999), ("say", 0), ("say", 1), ("go", 2)])
        self.assertEqual(machine.said(), [])
        machine.go(2)
        self.assertEqual(machine.said(), [999])
        machine.go(3)
        self.assertEqual(machine.said(), [999, 0, 0])
        self.assertEqual(machine.said(), [999, 0, 0])


class Carried(unittest.TestCase):
    def test_all_of_it(self):
        rows = [0, ("hear", 3), ("say", 3), ("load", 2, 0)]
        machine = low_machine(rows, ear=[11, 12], alarm=100, first=17, size=18, place=4)
        self.assertEqual(machine.go(2), 2)
        cells = low_cells(rows, alarm=100, first=17, size=18, place=4)
        self.assertEqual(machine.carried(), (
            tuple(cells), (17, 18, 4, 11), 6, False, (17, 18), 98, (11,), (12,), "", 9,
        ))

    def test_all_of_it_in_high_behind_what_is_caught(self):
        rows = [("hear", 3), ("say", 3), ("call", 6)]
        machine = low_machine(rows, ear=[11, 12], alarm=100)
        self.assertEqual(machine.go(4), 4)
        cells = low_cells(rows, alarm=100)
        cells[0:5] = [3, 20, 20, 5, 6]
        cells[6:10] = [20, 20, 0, 11]
        self.assertEqual(machine.carried(), (
            tuple(cells), (20, 20, 0, 11), 17, True, (0, 40), 0, (11,), (12,), "stop", 11,
        ))

    def test_kinds_of_values(self):
        bundle = low_machine(ROUND, ear=[1, 2]).carried()
        self.assertIs(type(bundle), tuple)
        kinds = (tuple, tuple, int, bool, tuple, int, tuple, tuple, str, int)
        self.assertEqual(tuple(type(part) for part in bundle), kinds)

    def test_nothing_is_changed_by_asking(self):
        machine = high_machine(ROUND, ear=[4])
        machine.go(3)
        self.assertEqual(machine.carried(), machine.carried())

    def test_what_was_carried_stays_as_it_is(self):
        machine = high_machine(ROUND, ear=[4, 5])
        machine.go(2)
        bundle = machine.carried()
        self.assertEqual(bundle, (
            tuple(filled(ROUND)), (1, 0, 0, 0), 2, True, (0, 16), 0, (1,), (4, 5), "", 2,
        ))
        copy = tuple(bundle)
        machine.go(20)
        self.assertEqual(bundle, copy)
        self.assertNotEqual(machine.carried(), copy)


class GoneOn(unittest.TestCase):
    ROWS = [("hear", 3), ("say", 3), ("put", 1, 4), ("load", 2, 1), ("which", 0), ("go", 6), ("call", 7), ("stop",)]

    def test_from_any_time(self):
        for kind in (NONE, ALL):
            for alarm in (0, 3, 6):
                cells = low_cells(self.ROWS, alarm=alarm)
                for steps in range(20):
                    machine = Machine(kind, cells, [31, 32])
                    machine.go(steps)
                    bundle = machine.carried()
                    other = gone_on(kind, bundle)
                    self.assertEqual(other.carried(), bundle)
                    self.assertEqual(other.said(), machine.said())
                    self.assertEqual(other.go(20), machine.go(20))
                    self.assertEqual(other.carried(), machine.carried())

    def test_twice_from_the_same(self):
        machine = low_machine(self.ROWS, ear=[31, 32], alarm=9)
        machine.go(1)
        bundle = machine.carried()
        one = gone_on(NONE, bundle)
        other = gone_on(NONE, bundle)
        one.go(4)
        self.assertEqual(other.carried(), bundle)
        self.assertEqual(machine.carried(), bundle)
        other.go(4)
        self.assertEqual(one.carried(), other.carried())
        self.assertNotEqual(one.carried(), bundle)
        self.assertEqual(gone_on(NONE, bundle).carried(), bundle)

    def test_of_another_kind(self):
        bundle = low_machine([("which", 3)]).carried()
        one = gone_on(NONE, bundle)
        other = gone_on(ALL, bundle)
        one.go(1)
        other.go(1)
        self.assertEqual((told(one)["high"], told(one)["place"]), (False, 1))
        self.assertEqual((told(other)["high"], told(other)["cells"][3]), (True, 1))

    def test_of_one_that_stopped(self):
        for rows in ([("stop",)], [0], [("go", 99)], [("put", 0, 99), ("enter", 0)]):
            machine = high_machine(rows)
            machine.go(9)
            other = gone_on(NONE, machine.carried())
            self.assertEqual(other.go(9), 0)
            self.assertEqual(other.carried(), machine.carried())

    def test_what_was_carried_is_not_changed(self):
        machine = low_machine(self.ROWS, ear=[31], alarm=2)
        bundle = machine.carried()
        expected = low_machine(self.ROWS, ear=[31], alarm=2).carried()
        gone_on(NONE, bundle).go(50)
        self.assertEqual(bundle, expected)

    def test_it_is_a_machine(self):
        self.assertIsInstance(gone_on(NONE, high_machine([0]).carried()), Machine)


class HandedIn(unittest.TestCase):
    def test_cells_and_ear_stay_as_they_were(self):
        cells = low_cells([("hear", 0), ("store", 2, 0), 0])
        ear = [5, 6]
        copies = (list(cells), list(ear))
        machine = Machine(NONE, cells, ear)
        machine.go(20)
        self.assertNotEqual(told(machine)["cells"], tuple(cells))
        self.assertEqual(told(machine)["ear"], (6,))
        self.assertEqual((cells, ear), copies)

    def test_cells_and_ear_may_be_changed_afterwards(self):
        cells = filled(ROUND)
        ear = [5, 6]
        machine = Machine(NONE, cells, ear)
        before = machine.carried()
        cells[0] = ("stop",)
        cells.append(3)
        ear.clear()
        self.assertEqual(machine.carried(), before)
        machine.go(3)
        self.assertEqual(told(machine)["boxes"], (1, 5, 0, 0))

    def test_a_told_list_may_be_changed(self):
        machine = high_machine(ROUND)
        machine.go(2)
        machine.said().append(77)
        machine.said().clear()
        self.assertEqual(machine.said(), [1])
        self.assertIs(type(machine.said()), list)
        machine.go(4)
        self.assertEqual(machine.said(), [1, 1])

    def test_two_machines_of_the_same_cells(self):
        cells = filled(ROUND)
        ear = [5, 6]
        one = Machine(NONE, cells, ear)
        other = Machine(NONE, cells, ear)
        one.go(9)
        self.assertEqual(other.carried(), Machine(NONE, cells, ear).carried())
