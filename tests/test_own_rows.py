"""Point 6: the machine's own rows, and the alarm."""

import unittest

from guestworlds.machine import Machine
from tests.programs import ALL, NONE, behind, filled, high_machine, low_cells, low_machine, only, told


class InHigh(unittest.TestCase):
    def test_say(self):
        for kind in (NONE, ALL):
            state = behind([("put", 1, 999), ("say", 1), ("say", 0), ("say", 1)], 4, kind=kind)
            self.assertEqual((state["said"], state["boxes"], state["place"]), ((999, 0, 999), (0, 999, 0, 0), 4))

    def test_say_of_a_row(self):
        self.assertEqual(behind([("load", 1, 0), ("say", 1)], 2)["said"], (0,))

    def test_hear(self):
        for kind in (NONE, ALL):
            state = behind([("hear", 1), ("hear", 2), ("hear", 0)], 2, ear=[7, 8, 9], kind=kind)
            self.assertEqual((state["boxes"], state["ear"], state["place"]), ((0, 7, 8, 0), (9,), 2))

    def test_hear_where_nothing_is_left(self):
        rows = [("put", 1, 5), ("hear", 0), ("hear", 1)]
        state = behind(rows, 3, ear=[7])
        self.assertEqual((state["boxes"], state["ear"], state["place"]), ((7, 0, 0, 0), (), 3))
        self.assertEqual(behind([("put", 3, 5), ("hear", 3)], 2)["boxes"], (0, 0, 0, 0))

    def test_hear_zeros(self):
        state = behind([("put", 1, 5), ("hear", 1)], 2, ear=[0, 4])
        self.assertEqual((state["boxes"], state["ear"]), ((0, 0, 0, 0), (4,)))

    def test_which(self):
        for kind in (NONE, ALL):
            state = behind([("put", 2, 50), ("which", 2)], 2, kind=kind)
            self.assertEqual((state["boxes"], state["place"]), ((0, 0, 1, 0), 2))

    def test_room(self):
        for many in (16, 27, 40):
            machine = high_machine([("room", 3)], many=many)
            machine.go(1)
            state = told(machine)
            self.assertEqual((state["boxes"], state["place"]), ((0, 0, 0, many), 1))

    def test_alarm(self):
        state = behind([("put", 2, 999), ("alarm", 2)], 2)
        self.assertEqual((state["alarm"], state["place"], state["boxes"]), (999, 2, (0, 0, 999, 0)))
        self.assertEqual(behind([("put", 2, 9), ("alarm", 2), ("alarm", 0)], 3)["alarm"], 0)

    def test_alarm_of_a_row(self):
        rows = [("put", 2, 9), ("alarm", 2), ("load", 1, 0), ("alarm", 1)]
        self.assertEqual(behind(rows, 4)["alarm"], 0)

    def test_stop(self):
        for kind in (NONE, ALL):
            rows = [("put", 2, 9), ("stop",), ("put", 2, 8)]
            machine = high_machine(rows, kind=kind)
            self.assertEqual(machine.go(9), 2)
            self.assertEqual(told(machine), {**behind(rows, 1), "why": "stop", "place": 2, "steps": 2})


class Enter(unittest.TestCase):
    def entered(self, first, size, place, box=0, many=16, kind=NONE):
        rows = [("put", box, first), ("put", box + 1, size), ("put", box + 2, place), ("enter", box)]
        machine = high_machine(rows, many=many, kind=kind)
        self.assertEqual(machine.go(3), 3)
        before = told(machine)
        self.assertEqual(machine.go(1), 1)
        return before, told(machine)

    def test_the_window_and_the_place(self):
        for kind in (NONE, ALL):
            for box in (0, 1):
                before, state = self.entered(5, 6, 3, box=box, kind=kind)
                self.assertEqual(state, {**before, "high": False, "window": (5, 6), "place": 3, "steps": 4})

    def test_the_bounds(self):
        for many in (16, 40):
            for first, size in ((0, many), (many, 0), (0, 0), (1, many - 1), (many - 1, 1), (9, many - 9)):
                before, state = self.entered(first, size, 999, many=many)
                self.assertEqual((state["window"], state["place"], state["high"]), ((first, size), 999, False))

    def test_a_window_that_cant_be(self):
        for many in (16, 40):
            for first, size in ((0, many + 1), (many + 1, 0), (1, many), (many, 1), (999, 999), (9, many - 8)):
                before, state = self.entered(first, size, 7, many=many)
                self.assertEqual(state, {**before, "why": "window", "steps": 4})
                self.assertEqual((state["place"], state["high"], state["window"]), (3, True, (0, many)))

    def test_rows_in_the_boxes_are_worth_0(self):
        rows = [("load", 1, 0), ("load", 2, 0), ("load", 3, 0), ("enter", 1)]
        state = behind(rows, 4)
        self.assertEqual((state["window"], state["place"], state["high"]), ((0, 0), 0, False))

    def test_an_alarm_is_as_it_was(self):
        self.assertEqual(told(low_machine([], alarm=6))["alarm"], 6)
        self.assertEqual(told(low_machine([], alarm=1))["alarm"], 1)

    def test_what_was_high_is_not_the_window_s(self):
        rows = [("room", 3), 0]
        machine = low_machine(rows, size=9)
        machine.go(2)
        state = told(machine)
        self.assertEqual((state["high"], state["window"]), (True, (0, 40)))


class InLow(unittest.TestCase):
    def done(self, rows, steps=None, kind=NONE, **more):
        """What is carried behind rows that are done in low, and before them."""
        machine = low_machine(rows, kind=kind, **more)
        before = told(machine)
        many = len(rows) if steps is None else steps
        self.assertEqual(machine.go(many), many)
        after = told(machine)
        self.assertFalse(after["high"])
        return before, after

    def test_say(self):
        for kind in (NONE, only("hear", "which", "room", "enter", "alarm", "stop")):
            before, state = self.done([("put", 3, 41), ("say", 3), ("say", 2)], kind=kind)
            self.assertEqual(state["said"], (41, 0))
            self.assertEqual((state["place"], state["cells"]), (3, before["cells"]))

    def test_hear(self):
        before, state = self.done([("hear", 3), ("hear", 2), ("hear", 0)], ear=[4, 5])
        self.assertEqual((state["boxes"], state["ear"], state["place"]), ((0, 20, 5, 4), (), 3))

    def test_which(self):
        before, state = self.done([("which", 1)])
        self.assertEqual((state["boxes"], state["place"]), ((20, 0, 0, 0), 1))

    def test_room(self):
        before, state = self.done([("room", 3)], size=13)
        self.assertEqual((state["boxes"], state["place"]), ((20, 13, 0, 13), 1))

    def test_enter_does_nothing(self):
        for size in (5, 20):
            before, state = self.done([("put", 0, 0), ("enter", 0)], size=size)
            self.assertEqual((state["window"], state["place"], state["why"]), ((20, size), 2, ""))
            before, state = self.done([("put", 0, 999), ("enter", 0)], size=size)
            self.assertEqual((state["window"], state["place"], state["why"]), ((20, size), 2, ""))

    def test_alarm_does_nothing(self):
        before, state = self.done([("put", 3, 50), ("alarm", 3)])
        self.assertEqual((state["alarm"], state["place"]), (0, 2))
        before, state = self.done([("put", 3, 50), ("alarm", 3)], alarm=9)
        self.assertEqual((state["alarm"], state["place"]), (7, 2))

    def test_stop_does_nothing(self):
        before, state = self.done([("stop",)])
        self.assertEqual(state, {**before, "place": 1, "steps": 8})


class Alarm(unittest.TestCase):
    def test_in_high_it_does_not_lessen(self):
        rows = [("put", 0, 2), ("alarm", 0), ("put", 1, 1), ("say", 1), ("which", 2), ("go", 2)]
        for steps in (2, 3, 4, 5, 6, 60):
            self.assertEqual(behind(rows, steps)["alarm"], 2)

    def test_each_row_in_low_lessens_it(self):
        rows = [("put", 3, 0), ("zero", 3, 3), 0, ("add", 3, 3, 3), ("load", 2, 3), ("store", 3, 2),
                ("say", 3), ("hear", 3), ("which", 3), ("room", 3), ("enter", 0), ("alarm", 0), ("stop",)]
        machine = low_machine(rows, alarm=30)
        for left in range(29, 17, -1):
            machine.go(1)
            self.assertEqual((told(machine)["alarm"], told(machine)["high"]), (left, False))

    def test_an_alarm_of_0_is_none(self):
        machine = low_machine([("go", 0)])
        self.assertEqual(machine.go(400), 400)
        self.assertEqual((told(machine)["high"], told(machine)["alarm"]), (False, 0))

    def ran_out(self, rows, alarm, laid, **more):
        machine = low_machine(rows, alarm=alarm, **more)
        self.assertEqual(machine.go(alarm - 1), alarm - 1)
        before = told(machine)
        self.assertEqual((before["high"], before["alarm"]), (False, 1))
        self.assertEqual(machine.go(1), 1)
        state = told(machine)
        self.assertEqual(state["cells"][:5], (laid, 20, before["window"][1], 4, 0))
        self.assertEqual(state["cells"][6:10], state["boxes"])
        self.assertEqual((state["high"], state["window"], state["alarm"]), (True, (0, 40), 0))
        self.assertEqual((state["place"], state["why"], state["steps"]), (16, "", 7 + alarm))
        return state

    def test_an_alarm_of_1(self):
        state = self.ran_out([("put", 3, 70), ("put", 3, 71)], 1, 1)
        self.assertEqual(state["boxes"], (20, 20, 0, 70))

    def test_an_alarm_of_more(self):
        state = self.ran_out([("put", 0, 1), ("put", 3, 71), ("say", 3), ("say", 0)], 3, 3)
        self.assertEqual((state["said"], state["boxes"]), ((71,), (1, 20, 0, 71)))

    def test_an_alarm_at_a_row_that_goes_to_itself(self):
        for alarm in (1, 2, 50):
            self.ran_out([0, 0, ("go", 2)], alarm, 2, place=2)

    def test_an_alarm_at_a_row_that_goes_elsewhere(self):
        self.ran_out([("go", 9)], 1, 9)
        self.ran_out([("put", 3, 0), ("zero", 3, 11)], 2, 11)

    def test_an_alarm_where_the_next_place_is_beyond(self):
        self.ran_out([("go", 600)], 1, 600)
        self.ran_out([("put", 3, 1)], 1, 1, size=1)

    def test_an_alarm_where_no_row_lies_next(self):
        self.ran_out([("put", 3, 1), 0], 1, 1)

    def test_an_alarm_at_an_own_row_that_is_not_caught(self):
        for row in (("say", 0), ("hear", 0), ("which", 0), ("room", 0), ("enter", 0), ("alarm", 0), ("stop",)):
            self.ran_out([row], 1, 1)

    def test_what_is_caught_otherwise_ends_the_alarm(self):
        for kind, row, number in ((NONE, 0, 3), (NONE, ("call", 0), 5), (ALL, ("which", 0), 1), (NONE, ("load", 0, 0), 2)):
            for alarm in (1, 5):
                machine = low_machine([row], kind=kind, alarm=alarm)
                machine.go(1)
                state = told(machine)
                self.assertEqual((state["cells"][3], state["alarm"], state["high"]), (number, 0, True))

    def test_an_alarm_behind_which_it_is_set_again(self):
        # Cell 5 leads to where the alarm is set: it comes to be low each time, for two rows.
        machine = Machine(NONE, low_cells([("put", 3, 1), ("go", 0)], alarm=2, handler=10), [])
        self.assertEqual(machine.go(7 + 2 + 6 + 1), 16)
        state = told(machine)
        self.assertEqual((state["high"], state["alarm"], state["place"]), (False, 1, 1))
        machine.go(1)
        self.assertEqual((told(machine)["high"], told(machine)["cells"][:5]), (True, (0, 20, 20, 4, 0)))

    def test_the_cells_of_a_small_machine(self):
        rows = [("put", 0, 12), ("put", 1, 4), ("alarm", 1), ("enter", 0)]
        machine = Machine(NONE, filled(rows, 12) + [("go", 0), 0, 0, 0], [])
        machine.go(8)
        state = told(machine)
        self.assertEqual(state["cells"][:10], (0, 12, 4, 4, 0, 0, 12, 4, 0, 0))
        self.assertEqual(state["window"], (0, 16))
