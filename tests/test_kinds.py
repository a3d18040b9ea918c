"""Point 14: which kinds can hold guests, and guests that stand unlike where they can't."""

import itertools
import unittest

from guestworlds.checks import check_cells, check_ear
from guestworlds.errors import BadKind, BadWay
from guestworlds.ground import Ground
from guestworlds.host import Host
from guestworlds.kinds import holds, unlike
from guestworlds.machine import Machine
from tests.guests import WAYS
from tests.programs import ALL, NONE, OWN, only

KINDS = list(itertools.product((True, False), repeat=7))
WRONG_KINDS = (
    (), (True,), (True,) * 6, (False,) * 6, (True,) * 8, (False,) * 8, (0,) * 7, (1,) * 7,
    *[(True,) * at + (wrong,) + (True,) * (6 - at) for at in range(7) for wrong in (0, 1, -1)],
)
WRONG_WAYS = ("", "Plain", "THROUGH", "plain ", "low", "plain through", "p")


def needed(way):
    return {"plain": ("say", "hear", "which", "enter", "alarm", "stop"), "through": ("say", "hear")}[way]


def stands(kind, way, cells, ear, steps):
    """How a guest, and its machine alone, stand behind so many steps."""
    host = Host(Ground(kind, 100), way)
    number = host.come(cells, ear, 1)
    host.go(number, steps)
    machine = Machine(kind, cells, ear)
    machine.go(steps)
    return host.carried(number), machine.carried()


class Holds(unittest.TestCase):
    def test_all_kinds(self):
        for way in WAYS:
            for kind in KINDS:
                caught = [word for word, truth in zip(OWN, kind, strict=True) if truth]
                with self.subTest((kind, way)):
                    self.assertIs(holds(kind, way), all(word in caught for word in needed(way)))

    def test_some_by_name(self):
        self.assertIs(holds(ALL, "plain"), True)
        self.assertIs(holds(ALL, "through"), True)
        self.assertIs(holds(NONE, "plain"), False)
        self.assertIs(holds(NONE, "through"), False)
        self.assertIs(holds(only("say", "hear", "which", "enter", "alarm", "stop"), "plain"), True)
        self.assertIs(holds(only("say", "hear"), "through"), True)
        self.assertIs(holds(only("say", "hear"), "plain"), False)
        self.assertIs(holds(only("say", "which", "room", "enter", "alarm", "stop"), "through"), False)

    def test_wrong_kinds_and_ways(self):
        for call in (holds, unlike):
            for kind in WRONG_KINDS:
                for way in WAYS + ("low",):
                    with self.subTest((call, kind, way)):
                        self.assertRaises(BadKind, call, kind, way)
            for way in WRONG_WAYS:
                for kind in (NONE, ALL):
                    with self.subTest((call, kind, way)):
                        self.assertRaises(BadWay, call, kind, way)


class Unlike(unittest.TestCase):
    def test_each_kind_that_does_not_hold(self):
        for way in WAYS:
            for kind in KINDS:
                with self.subTest((kind, way)):
                    told = unlike(kind, way)
                    if holds(kind, way):
                        self.assertIsNone(told)
                        continue
                    self.assertEqual((type(told), [type(part) for part in told]), (tuple, [list, list, int]))
                    cells, ear, steps = told
                    check_cells(cells)
                    check_ear(ear)
                    self.assertIn(steps, range(401))
                    guest, machine = stands(kind, way, cells, ear, steps)
                    self.assertNotEqual(guest, machine)
                    # It is unlike by the row that should be caught alone: the steps are as many.
                    self.assertEqual(guest[9], machine[9])

    def test_asked_again_it_tells_the_same(self):
        for way in WAYS:
            for kind in KINDS:
                self.assertEqual(unlike(kind, way), unlike(kind, way))

    def test_told_lists_may_be_changed(self):
        for way in WAYS:
            before = unlike(NONE, way)
            cells, ear, steps = unlike(NONE, way)
            cells.clear()
            ear.append(5)
            self.assertEqual(unlike(NONE, way), before)
