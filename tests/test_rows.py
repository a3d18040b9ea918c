"""Point 2, what each row does, and point 4, how a machine stands at first."""

import unittest

from guestworlds.machine import Machine
from tests.programs import ALL, NONE, behind, filled, high_machine, told

ROW = ("go", 7)


class AtFirst(unittest.TestCase):
    def test_all_of_it(self):
        cells = [3, ("say", 1)] + [0] * 20
        self.assertEqual(Machine(ALL, cells, [4, 5]).carried(), (
            tuple(cells), (0, 0, 0, 0), 0, True, (0, 22), 0, (), (4, 5), "", 0,
        ))

    def test_it_has_said_nothing(self):
        self.assertEqual(Machine(NONE, [0] * 16, [1]).said(), [])


class Put(unittest.TestCase):
    def test_each_box_and_the_next_place(self):
        for box in range(4):
            state = behind([("put", box, 40 + box)], 1)
            boxes = [0] * 4
            boxes[box] = 40 + box
            self.assertEqual((state["boxes"], state["place"]), (tuple(boxes), 1))

    def test_the_bounds(self):
        self.assertEqual(behind([("put", 0, 999), ("put", 0, 0)], 1)["boxes"], (999, 0, 0, 0))
        self.assertEqual(behind([("put", 0, 999), ("put", 0, 0)], 2)["boxes"], (0, 0, 0, 0))

    def test_nothing_else_changes(self):
        rows = [("put", 1, 5)]
        self.assertEqual(behind(rows, 1), {
            "cells": tuple(filled(rows)), "boxes": (0, 5, 0, 0), "place": 1, "high": True,
            "window": (0, 16), "alarm": 0, "said": (), "ear": (), "why": "", "steps": 1,
        })


class Sums(unittest.TestCase):
    def total(self, word, one, other):
        state = behind([("put", 1, one), ("put", 2, other), (word, 3, 1, 2)], 3)
        self.assertEqual((state["boxes"][:3], state["place"]), ((0, one, other), 3))
        return state["boxes"][3]

    def test_add(self):
        for one, other, both in ((0, 0, 0), (3, 4, 7), (999, 0, 999), (500, 499, 999),
                                 (500, 500, 0), (999, 1, 0), (999, 999, 998), (700, 400, 100)):
            self.assertEqual(self.total("add", one, other), both)

    def test_less(self):
        for one, other, rest in ((0, 0, 0), (7, 4, 3), (4, 7, 997), (0, 1, 999), (0, 999, 1),
                                 (999, 0, 999), (999, 999, 0)):
            self.assertEqual(self.total("less", one, other), rest)

    def test_a_box_may_stand_several_times(self):
        self.assertEqual(behind([("put", 1, 5), ("add", 1, 1, 1)], 2)["boxes"], (0, 10, 0, 0))
        self.assertEqual(behind([("put", 1, 5), ("less", 1, 1, 1)], 2)["boxes"], (0, 0, 0, 0))
        self.assertEqual(behind([("put", 1, 5), ("less", 1, 0, 1)], 2)["boxes"], (0, 995, 0, 0))

    def test_a_row_is_worth_0(self):
        rows = [("put", 1, 4), ("load", 0, 1), ("add", 2, 0, 1), ("less", 3, 1, 0), ROW]
        self.assertEqual(behind(rows, 2)["boxes"], (ROW, 4, 0, 0))
        self.assertEqual(behind(rows, 3)["boxes"], (ROW, 4, 4, 0))
        self.assertEqual(behind(rows, 4)["boxes"], (ROW, 4, 4, 4))
        rows = [("put", 1, 4), ("load", 0, 1), ("less", 2, 0, 1), ("add", 0, 0, 0), ROW]
        self.assertEqual(behind(rows, 3)["boxes"], (ROW, 4, 996, 0))
        self.assertEqual(behind(rows, 4)["boxes"], (0, 4, 996, 0))


class LoadAndStore(unittest.TestCase):
    def test_load_a_number(self):
        state = behind([("put", 1, 5), ("load", 2, 1), 0, 0, 0, 77], 2)
        self.assertEqual((state["boxes"], state["place"]), ((0, 5, 77, 0), 2))

    def test_load_a_row(self):
        state = behind([("put", 1, 5), ("load", 2, 1), 0, 0, 0, ROW], 2)
        self.assertEqual((state["boxes"], state["cells"][5]), ((0, 5, ROW, 0), ROW))

    def test_load_from_where_a_row_is_worth(self):
        rows = [("load", 0, 1), ("load", 1, 0)]
        self.assertEqual(behind(rows, 2)["boxes"], (("load", 0, 1), ("load", 0, 1), 0, 0))

    def test_load_the_first_and_the_last_cell(self):
        self.assertEqual(behind([("load", 3, 0)], 1)["boxes"], (0, 0, 0, ("load", 3, 0)))
        cells = filled([("put", 0, 15), ("load", 0, 0)], 15) + [88]
        machine = Machine(NONE, cells, [])
        self.assertEqual(machine.go(2), 2)
        self.assertEqual(told(machine)["boxes"], (88, 0, 0, 0))

    def test_store_a_number(self):
        rows = [("put", 1, 5), ("put", 2, 66), ("store", 1, 2)]
        state = behind(rows, 3)
        self.assertEqual(state["cells"], tuple(filled([*rows, 0, 0, 66])))
        self.assertEqual((state["boxes"], state["place"]), ((0, 5, 66, 0), 3))

    def test_store_a_row(self):
        rows = [("load", 3, 0), ("put", 0, 15), ("store", 0, 3)]
        state = behind(rows, 3)
        self.assertEqual(state["cells"], tuple(filled(rows, 15) + [("load", 3, 0)]))
        self.assertEqual((state["boxes"], state["place"]), ((15, 0, 0, ("load", 3, 0)), 3))

    def test_store_to_where_a_row_is_worth(self):
        rows = [("load", 3, 0), ("put", 1, 9), ("store", 3, 1)]
        self.assertEqual(behind(rows, 3)["cells"], tuple(filled([9, *rows[1:]])))

    def test_what_was_stored_is_done(self):
        rows = [("put", 1, 5), ("load", 2, 1), ("put", 1, 4), ("store", 1, 2), 0, ("put", 0, 9)]
        state = behind(rows, 5)
        self.assertEqual((state["boxes"], state["place"]), ((9, 4, ("put", 0, 9), 0), 5))


class Ways(unittest.TestCase):
    def test_go(self):
        for place in (0, 1, 9, 15):
            state = behind([("go", place)], 1)
            self.assertEqual((state["place"], state["why"], state["boxes"]), (place, "", (0,) * 4))

    def test_go_beyond_is_caught_only_behind_it(self):
        state = behind([("go", 999)], 1)
        self.assertEqual((state["place"], state["why"]), (999, ""))

    def test_zero_where_it_is(self):
        state = behind([("zero", 0, 9)], 1)
        self.assertEqual((state["place"], state["boxes"]), (9, (0,) * 4))

    def test_zero_where_it_isnt(self):
        for number in (1, 999):
            state = behind([("put", 2, number), ("zero", 2, 9)], 2)
            self.assertEqual((state["place"], state["boxes"]), (2, (0, 0, number, 0)))

    def test_zero_asks_its_own_box(self):
        self.assertEqual(behind([("put", 2, 5), ("zero", 1, 9)], 2)["place"], 9)

    def test_zero_of_a_row(self):
        self.assertEqual(behind([("load", 1, 0), ("zero", 1, 9)], 2)["place"], 9)

    def test_call_in_high_does_nothing(self):
        for kind in (NONE, ALL):
            rows = [("put", 0, 3), ("call", 9)]
            self.assertEqual(behind(rows, 2, kind=kind), {
                "cells": tuple(filled(rows)), "boxes": (3, 0, 0, 0), "place": 2, "high": True,
                "window": (0, 16), "alarm": 0, "said": (), "ear": (), "why": "", "steps": 2,
            })

    def test_a_row_at_the_last_cell(self):
        machine = high_machine([("go", 39)] + [0] * 38 + [("put", 0, 1)], many=40)
        self.assertEqual(machine.go(2), 2)
        self.assertEqual((told(machine)["place"], told(machine)["why"]), (40, ""))
