"""Point 10: what a guest's step is, by either way."""

import unittest

from guestworlds.machine import gone_on
from tests.guests import WAYS, alone, guest_told, low_bundle, new_host
from tests.programs import ALL, NONE, OWN, behind, filled, high_machine, only, told

# The boxes hold 3, 70, 5 and 80 when the row of each word is done; each row has a box that it would change.
SET_UP = [("put", 0, 3), ("put", 1, 70), ("put", 2, 5), ("put", 3, 80)]
ROWS = {
    "say": ("say", 1),
    "hear": ("hear", 1),
    "which": ("which", 1),
    "room": ("room", 1),
    "enter": ("enter", 0),
    "alarm": ("alarm", 1),
    "stop": ("stop",),
}
# What the ground leaves in box 1, where a window has so many cells.
BOX_1 = {"hear": 0, "which": 0}


def uncaught(word):
    """Kinds that don't catch the row of this word."""
    return NONE, only(*[other for other in OWN if other != word])


def by_ground(before, word, alarm):
    """How a guest stands behind a row that the ground did."""
    box = before["window"][1] if word == "room" else BOX_1.get(word, before["boxes"][1])
    boxes = (before["boxes"][0], box, *before["boxes"][2:])
    more = {"boxes": boxes, "place": before["place"] + 1, "alarm": alarm, "steps": before["steps"] + 1}
    return {**before, **more}


class Uncaught(unittest.TestCase):
    def test_one_that_is_high_by_plain(self):
        for word, row in ROWS.items():
            for kind in uncaught(word):
                for alarm in (0, 1, 2, 9):
                    with self.subTest((word, kind, alarm)):
                        host = new_host(kind, "plain")
                        bundle = alone(kind, filled([*SET_UP, row]), [7, 8], 4)
                        host.lay((*bundle[:5], alarm, *bundle[6:]), 1)
                        before = guest_told(host, 0)
                        self.assertEqual(host.go(0, 1), 1)
                        self.assertEqual(guest_told(host, 0), by_ground(before, word, alarm))
                        self.assertEqual(host.ground.said(), [70] if word == "say" else [])

    def test_one_that_is_high_by_through(self):
        for word, row in ROWS.items():
            for kind in (*uncaught(word), ALL):
                with self.subTest((word, kind)):
                    host = new_host(kind, "through")
                    cells = filled([*SET_UP, row])
                    host.come(cells, [7, 8], 1)
                    self.assertEqual(host.go(0, 5), 5)
                    self.assertEqual(host.carried(0), alone(kind, cells, [7, 8], 5))
                    self.assertEqual(host.ground.said(), [])

    def test_one_that_is_high_by_plain_where_the_row_is_caught(self):
        for word, row in ROWS.items():
            for kind in (only(word), ALL):
                with self.subTest((word, kind)):
                    host = new_host(kind, "plain")
                    cells = filled([*SET_UP, row])
                    host.come(cells, [7, 8], 1)
                    self.assertEqual(host.go(0, 5), 5)
                    self.assertEqual(host.carried(0), alone(kind, cells, [7, 8], 5))
                    self.assertEqual(host.ground.said(), [])

    def test_one_that_is_low(self):
        for way in WAYS:
            for word, row in ROWS.items():
                for kind in uncaught(word):
                    for alarm in (0, 2, 9):
                        with self.subTest((way, word, kind, alarm)):
                            host = new_host(kind, way)
                            bundle = low_bundle([row], ear=[7, 8], alarm=alarm, size=19)
                            host.lay((bundle[0], (3, 70, 5, 80), *bundle[2:]), 1)
                            before = guest_told(host, 0)
                            self.assertFalse(before["high"])
                            self.assertEqual(host.go(0, 1), 1)
                            self.assertEqual(guest_told(host, 0), by_ground(before, word, max(alarm - 1, 0)))
                            self.assertEqual(host.ground.said(), [70] if word == "say" else [])

    def test_an_alarm_of_one_that_is_low_runs_out(self):
        for way in WAYS:
            for word, row in ROWS.items():
                for kind in uncaught(word):
                    with self.subTest((way, word, kind)):
                        host = new_host(kind, way)
                        bundle = low_bundle([row], ear=[7, 8], alarm=1)
                        host.lay((bundle[0], (3, 70, 5, 80), *bundle[2:]), 1)
                        self.assertEqual(host.go(0, 1), 1)
                        state = guest_told(host, 0)
                        self.assertEqual(state["cells"][:5], (1, 20, 20, 4, 0))
                        self.assertEqual(state["cells"][6:10], state["boxes"])
                        self.assertEqual((state["high"], state["alarm"], state["place"]), (True, 0, 16))
                        self.assertEqual((state["said"], state["ear"], state["window"]), ((), (7, 8), (0, 40)))

    def test_one_that_is_low_where_the_row_is_caught(self):
        for way in WAYS:
            for word, row in ROWS.items():
                for kind in (only(word), ALL):
                    with self.subTest((way, word, kind)):
                        host = new_host(kind, way)
                        bundle = low_bundle([row], ear=[7], alarm=4)
                        host.lay(bundle, 1)
                        self.assertEqual(host.go(0, 1), 1)
                        state = guest_told(host, 0)
                        self.assertEqual(state["cells"][:5], (0, 20, 20, 1, 0))
                        self.assertEqual((state["high"], state["alarm"], state["place"]), (True, 0, 16))
                        self.assertEqual((state["said"], state["ear"], host.ground.said()), ((), (7,), []))


class SaidAndHeard(unittest.TestCase):
    def test_what_several_say_lies_in_one_list(self):
        host = new_host(NONE)
        for mark in (11, 22):
            host.come(filled([("put", 0, mark), ("say", 0), ("go", 1)]), [], 1)
        for number, many in ((1, 2), (0, 4), (1, 2)):
            host.go(number, many)
        self.assertEqual(host.ground.said(), [22, 11, 11, 22])
        self.assertEqual([guest_told(host, number)["said"] for number in (0, 1)], [(), ()])
        self.assertIs(type(host.ground.said()), list)

    def test_a_row_in_a_box_is_worth_0_to_the_ground(self):
        host = new_host(NONE)
        host.come(filled([("load", 1, 0), ("say", 1)]), [], 1)
        host.go(0, 2)
        self.assertEqual(host.ground.said(), [0])

    def test_what_was_said_before_stays_a_guest_s(self):
        host = new_host(NONE)
        machine = high_machine([("put", 0, 9), ("say", 0), ("say", 0), ("say", 0)])
        machine.go(2)
        host.lay(machine.carried(), 1)
        host.go(0, 2)
        self.assertEqual((guest_told(host, 0)["said"], host.ground.said()), ((9,), [9, 9]))

    def test_by_through_in_high_its_own_and_in_low_the_ground_s(self):
        host = new_host(NONE, "through")
        cells = filled([
            ("put", 0, 9), ("say", 0), ("hear", 3), ("put", 0, 0), ("put", 1, 16), ("put", 2, 7), ("enter", 0),
            ("say", 1), ("hear", 3), ("say", 3), ("go", 9),
        ])
        host.come(cells, [4, 5], 1)
        host.go(0, 10)
        state = guest_told(host, 0)
        self.assertEqual((state["said"], state["ear"], state["boxes"]), ((9,), (5,), (0, 16, 7, 0)))
        self.assertEqual((state["high"], host.ground.said()), (False, [16, 0]))

    def test_hear_does_not_take_from_the_ear(self):
        host = new_host(NONE)
        host.come(filled([("put", 2, 50), ("hear", 2), ("hear", 2)]), [4, 5], 1)
        host.go(0, 3)
        self.assertEqual((guest_told(host, 0)["boxes"], guest_told(host, 0)["ear"]), ((0, 0, 0, 0), (4, 5)))


class AsItsMachine(unittest.TestCase):
    """The rows that are not the machine's own, and what is caught, by kinds of all sorts."""

    def test_rows_that_are_not_the_machine_s_own(self):
        rows = [("put", 0, 4), ("add", 1, 0, 0), ("less", 2, 1, 0), ("load", 3, 0), ("call", 3), ("store", 1, 3),
                ("zero", 3, 7), ("go", 9), 0, ("put", 2, 998)]
        for way in WAYS:
            for kind in (NONE, ALL):
                host = new_host(kind, way)
                host.come(filled(rows), [], 1)
                for steps in range(1, 12):
                    host.go(0, 1)
                    self.assertEqual(guest_told(host, 0), behind(rows, steps, kind=kind))

    def test_what_is_caught_in_low(self):
        caught = {
            "call": [("call", 321)], "beyond": [("go", 30)], "no row": [7], "load": [("put", 0, 30), ("load", 1, 0)],
            "alarm": [("put", 0, 1), ("put", 0, 2), ("put", 0, 3), ("put", 0, 4)],
        }
        for way in WAYS:
            for kind in (NONE, ALL):
                for name, rows in caught.items():
                    host = new_host(kind, way)
                    host.come([0] * 17, [], 1)
                    # Cell 5 leads to where no row lies, so that no row of the machine's own is done.
                    bundle = low_bundle(rows, kind=kind, alarm=3, handler=39)
                    number = host.lay(bundle, 1)
                    machine = gone_on(kind, bundle)
                    for steps in range(1, 5):
                        with self.subTest((way, name, steps)):
                            self.assertEqual(host.go(number, 1), machine.go(1))
                            self.assertEqual(host.carried(number), machine.carried())
                    self.assertTrue(told(machine)["high"])

    def test_room_of_one_that_is_high(self):
        for many in (16, 40):
            for way in WAYS:
                for kind in (NONE, ALL):
                    host = new_host(kind, way)
                    host.come([0] * 16, [], 1)
                    number = host.come(filled([("room", 3)], many), [], 1)
                    host.go(number, 1)
                    self.assertEqual(guest_told(host, number)["boxes"], (0, 0, 0, many))

    def test_a_window_is_told_within_its_own_cells(self):
        host = new_host()
        host.come([0] * 16, [], 1)
        number = host.lay(low_bundle([0]), 1)
        self.assertEqual(guest_told(host, number)["window"], (20, 20))
        host.go(number, 1)
        self.assertEqual(guest_told(host, number)["cells"][:5], (0, 20, 20, 3, 0))
        self.assertEqual(host.ground.all_cells()[16:21], [0, 20, 20, 3, 0])

    def test_a_window_that_cant_be_is_beyond_its_own_cells(self):
        for way in WAYS:
            host = new_host(way=way)
            rows = filled([("put", 1, 17), ("enter", 0)])
            host.come(rows, [], 1)
            host.go(0, 9)
            state = guest_told(host, 0)
            self.assertEqual((state["why"], state["place"], state["high"]), ("window", 1, True))
