"""Point 5: what is caught, in high and in low."""

import unittest

from guestworlds.machine import Machine
from tests.programs import ALL, NONE, OWN, behind, high_machine, low_cells, low_machine, only, told

OWN_ROWS = {word: (word,) if word == "stop" else (word, 0) for word in OWN}


class InHigh(unittest.TestCase):
    def stopped(self, machine, many):
        self.assertEqual(machine.go(400), many)
        return told(machine)

    def test_the_place_is_beyond(self):
        for place in (16, 17, 999):
            before = behind([("go", place)], 1)
            state = self.stopped(high_machine([("go", place)]), 2)
            self.assertEqual(state, {**before, "why": "beyond", "steps": 2})
            self.assertEqual(state["place"], place)

    def test_the_place_behind_the_last_cell(self):
        machine = high_machine([("go", 15)] + [0] * 14 + [("put", 0, 1)])
        state = self.stopped(machine, 3)
        self.assertEqual((state["place"], state["why"], state["high"]), (16, "beyond", True))

    def test_a_load_is_beyond(self):
        for address in (16, 17, 999):
            rows = [("put", 1, address), ("load", 2, 1)]
            state = self.stopped(high_machine(rows), 2)
            self.assertEqual(state, {**behind(rows, 1), "why": "beyond", "steps": 2})
            self.assertEqual(state["place"], 1)

    def test_a_store_is_beyond(self):
        for address in (16, 17, 999):
            rows = [("put", 1, address), ("store", 1, 0)]
            state = self.stopped(high_machine(rows), 2)
            self.assertEqual(state, {**behind(rows, 1), "why": "beyond", "steps": 2})
            self.assertEqual(state["place"], 1)

    def test_what_is_stored_or_loaded_to_may_be_beyond(self):
        rows = [("put", 1, 500), ("load", 1, 0), ("put", 1, 500), ("store", 0, 1)]
        state = behind(rows, 4)
        self.assertEqual((state["why"], state["cells"][0], state["place"]), ("", 500, 4))

    def test_no_row(self):
        for number in (0, 1, 999):
            rows = [("put", 0, 5), number]
            state = self.stopped(high_machine(rows), 2)
            self.assertEqual(state, {**behind(rows, 1), "why": "no row", "steps": 2})
            self.assertEqual(state["place"], 1)

    def test_no_own_row_is_caught(self):
        for word in ("say", "hear", "which", "room", "alarm"):
            machine = high_machine([OWN_ROWS[word]], kind=ALL)
            machine.go(1)
            state = told(machine)
            self.assertEqual((state["place"], state["why"], state["high"]), (1, "", True))

    def test_nothing_is_laid_into_the_cells(self):
        cells = [("go", 10)] + [7] * 15
        machine = Machine(NONE, cells, [])
        machine.go(5)
        self.assertEqual(told(machine)["cells"], tuple(cells))


class InLow(unittest.TestCase):
    def caught(self, rows, kind=NONE, done=0, **more):
        """What is carried behind a step in which something must be caught."""
        machine = low_machine(rows, kind=kind, **more)
        machine.go(done)
        before = told(machine)
        self.assertFalse(before["high"])
        self.assertEqual(machine.go(1), 1)
        after = told(machine)
        # What is laid lies in cells 0 to 4 and 6 to 9, and nowhere else.
        self.assertEqual(after["cells"][5], before["cells"][5])
        self.assertEqual(after["cells"][10:], before["cells"][10:])
        self.assertEqual(after["cells"][6:10], before["boxes"])
        for name in ("boxes", "said", "ear"):
            self.assertEqual(after[name], before[name])
        self.assertEqual((after["high"], after["window"], after["alarm"]), (True, (0, 40), 0))
        self.assertEqual((after["why"], after["steps"]), ("", before["steps"] + 1))
        return after

    def test_the_place_is_beyond(self):
        state = self.caught([], size=12, place=12)
        self.assertEqual(state["cells"][:5], (12, 20, 12, 2, 0))
        self.assertEqual(state["place"], 16)
        self.assertEqual(self.caught([], place=999)["cells"][:5], (999, 20, 20, 2, 0))
        self.assertEqual(self.caught([], size=0)["cells"][:5], (0, 20, 0, 2, 0))
        self.assertEqual(self.caught([("go", 20)], done=1)["cells"][:5], (20, 20, 20, 2, 0))

    def test_the_place_is_just_beyond_the_window_s_last(self):
        rows = [("go", 4), 0, 0, 0, ("put", 3, 8), ("put", 3, 9)]
        state = self.caught(rows, size=5, done=2)
        self.assertEqual(state["cells"][:5], (5, 20, 5, 2, 0))
        self.assertEqual(state["cells"][6:10], (20, 5, 0, 8))

    def test_a_load_is_beyond(self):
        state = self.caught([("put", 3, 7), ("load", 0, 3)], size=7, done=1)
        self.assertEqual(state["cells"][:5], (1, 20, 7, 2, 0))
        self.assertEqual(state["boxes"], (20, 7, 0, 7))

    def test_a_store_is_beyond(self):
        state = self.caught([("put", 3, 7), ("store", 3, 0)], size=7, done=1)
        self.assertEqual(state["cells"][:5], (1, 20, 7, 2, 0))
        self.assertEqual(state["cells"][27], 0)

    def test_a_load_and_a_store_within_the_window(self):
        rows = [("put", 3, 6), ("load", 0, 3), ("put", 3, 5), ("store", 3, 0), 0, 0, 61]
        machine = low_machine(rows, size=7)
        machine.go(4)
        state = told(machine)
        self.assertEqual((state["high"], state["place"], state["boxes"]), (False, 4, (61, 7, 0, 5)))
        self.assertEqual(state["cells"][20:28], (*rows[:4], 0, 61, 61, 0))

    def test_the_window_moves_where_addresses_lie(self):
        rows = [0, 0, ("load", 3, 2), ("put", 2, 4), ("store", 2, 3), 33]
        machine = low_machine(rows, first=22, size=5, place=0)
        machine.go(3)
        state = told(machine)
        self.assertEqual((state["boxes"], state["place"]), ((22, 5, 4, ("load", 3, 2)), 3))
        self.assertEqual(state["cells"][26], ("load", 3, 2))

    def test_no_row(self):
        state = self.caught([("put", 0, 1), 55], done=1)
        self.assertEqual(state["cells"][:5], (1, 20, 20, 3, 0))
        self.assertEqual(self.caught([0])["cells"][:5], (0, 20, 20, 3, 0))

    def test_own_rows_that_the_kind_catches(self):
        for word in OWN:
            for kind in (ALL, only(word)):
                with self.subTest((word, kind)):
                    rows = [("put", 3, 1), OWN_ROWS[word]]
                    state = self.caught(rows, kind=kind, done=1, ear=[8])
                    self.assertEqual(state["cells"][:5], (1, 20, 20, 1, 0))
                    self.assertEqual(state["cells"][6:10], (20, 20, 0, 1))
                    self.assertEqual(state["place"], 16)

    def test_own_rows_that_the_kind_does_not_catch(self):
        for word in OWN:
            others = [other for other in OWN if other != word]
            for kind in (NONE, only(*others)):
                with self.subTest((word, kind)):
                    machine = low_machine([OWN_ROWS[word]], kind=kind)
                    machine.go(1)
                    state = told(machine)
                    self.assertEqual((state["high"], state["place"], state["why"]), (False, 1, ""))

    def test_call(self):
        for kind in (NONE, ALL):
            state = self.caught([("put", 3, 1), ("call", 777)], kind=kind, done=1)
            self.assertEqual(state["cells"][:5], (2, 20, 20, 5, 777))
            self.assertEqual(state["place"], 16)
        self.assertEqual(self.caught([("call", 0)])["cells"][:5], (1, 20, 20, 5, 0))

    def test_call_at_the_window_s_last(self):
        self.assertEqual(self.caught([("call", 1)], size=1)["cells"][:5], (1, 20, 1, 5, 1))

    def test_call_from_a_cell_that_is_laid_over(self):
        rows = [0] * 10
        cells = low_cells(rows, first=0, size=40, place=1)
        cells[1] = ("call", 321)
        machine = Machine(NONE, cells, [])
        machine.go(8)
        self.assertEqual(told(machine)["cells"][:5], (2, 0, 40, 5, 321))

    def test_an_own_row_is_caught_ahead_of_nothing_else(self):
        # The row behind is not done, and what it would say is not said.
        state = self.caught([("say", 0), ("say", 1)], kind=ALL)
        self.assertEqual((state["said"], state["place"]), ((), 16))

    def test_rows_in_boxes_are_laid(self):
        rows = [("load", 1, 2), ("put", 2, 5), 0]
        state = self.caught(rows, done=2)
        self.assertEqual(state["cells"][6:10], (20, ("load", 1, 2), 5, 0))
        self.assertEqual(state["boxes"], (20, ("load", 1, 2), 5, 0))

    def test_what_lay_in_the_first_cells_is_gone(self):
        cells = low_cells([0])
        cells[1:5] = [91, 92, 93, 94]
        cells[6:10] = [95, ("stop",), 97, 98]
        machine = Machine(NONE, cells, [])
        machine.go(8)
        self.assertEqual(told(machine)["cells"][:10], (0, 20, 20, 3, 0, 16, 20, 20, 0, 0))

    def test_where_cell_5_tells_to_go_on(self):
        for handler, place in ((0, 0), (16, 16), (39, 39), (999, 999), (("go", 7), 0), (("stop",), 0)):
            state = self.caught([0], handler=handler)
            self.assertEqual((state["place"], state["cells"][5]), (place, handler))

    def test_cell_5_changed_in_low(self):
        rows = [("put", 2, 5), ("put", 3, 12), ("store", 2, 3), 0]
        cells = low_cells([0], first=0, size=40, place=20)
        cells[20:24] = rows
        machine = Machine(NONE, cells, [])
        machine.go(7 + 4)
        state = told(machine)
        self.assertEqual((state["place"], state["high"], state["cells"][5]), (12, True, 12))

    def test_it_goes_on_from_there(self):
        machine = low_machine([0])
        self.assertEqual(machine.go(400), 2)
        state = told(machine)
        self.assertEqual((state["why"], state["steps"]), ("stop", 9))

    def test_it_may_be_caught_in_high_behind_it(self):
        machine = low_machine([0], handler=30)
        self.assertEqual(machine.go(400), 2)
        state = told(machine)
        self.assertEqual((state["why"], state["place"], state["cells"][:5]), ("no row", 30, (0, 20, 20, 3, 0)))

    def test_it_may_come_to_be_low_again(self):
        machine = low_machine([("call", 5)], handler=10)
        machine.go(1)
        self.assertEqual(told(machine)["high"], True)
        machine.go(6)
        state = told(machine)
        self.assertEqual((state["high"], state["window"], state["place"]), (False, (20, 20), 0))
