"""Points 1 to 3 over the whole program: what is refused wherever cells, kinds and ears are handed in."""

import unittest

from guestworlds.errors import BadCells, BadEar, BadKind, WorldError
from guestworlds.ground import Ground
from guestworlds.host import Host
from guestworlds.kinds import holds, unlike
from guestworlds.machine import Machine, gone_on
from guestworlds.notes import written
from tests.guests import low_bundle, marked, new_host
from tests.programs import ALL, NONE
from tests.test_cells import LAST, PARTS, good_row

WRONG_THINGS = [-1, 1000, 10 ** 30, True, False, (), ("fly",), ("Put", 0, 0), ("put", 0), (0, "say"), (5,)]
for one, its_parts in PARTS.items():
    WRONG_THINGS.append(good_row(one, 0) + (0,))
    for where, its_part in enumerate(its_parts, 1):
        for wrong in (-1, LAST[its_part] + 1, True, "0"):
            WRONG_THINGS.append((*good_row(one, 0)[:where], wrong, *good_row(one, 0)[where + 1:]))

WRONG_EARS = [[0] * 21, [-1], [1000], [True], [5] * 19 + [1000], [0] * 30]
WRONG_KINDS = [(), (True,) * 6, (True,) * 8, (1,) * 7, (False,) * 6 + (0,)]


class EachPlace(unittest.TestCase):
    def setUp(self):
        self.host = new_host()
        self.host.come(marked(3), [4], 2)
        self.bundle = low_bundle([], ear=[4])

    def takes_cells(self):
        bundle = self.bundle
        return {
            "Machine": lambda cells: Machine(NONE, cells, []),
            "gone_on": lambda cells: gone_on(NONE, (tuple(cells), *bundle[1:])),
            "come": lambda cells: self.host.come(cells, [], 1),
            "lay": lambda cells: self.host.lay((tuple(cells), *bundle[1:]), 1),
            "written": written,
        }

    def takes_ears(self):
        bundle = self.bundle
        return {
            "Machine": lambda ear: Machine(NONE, [0] * 16, ear),
            "gone_on": lambda ear: gone_on(NONE, (*bundle[:7], tuple(ear), *bundle[8:])),
            "come": lambda ear: self.host.come([0] * 16, ear, 1),
            "lay": lambda ear: self.host.lay((*bundle[:7], tuple(ear), *bundle[8:]), 1),
        }

    def takes_kinds(self):
        return {
            "Machine": lambda kind: Machine(kind, [0] * 16, []),
            "gone_on": lambda kind: gone_on(kind, self.bundle),
            "Ground": lambda kind: Ground(kind, 16),
            "holds": lambda kind: holds(kind, "plain"),
            "unlike": lambda kind: unlike(kind, "through"),
        }

    def refused_everywhere(self, cells, at):
        for name, take in self.takes_cells().items():
            with self.subTest((name, cells)):
                with self.assertRaises(BadCells) as caught:
                    take(cells)
                self.assertEqual(caught.exception.at, at)

    def stands(self):
        return self.host.rooms(), self.host.ground.all_cells(), self.host.ground.said(), self.host.carried(0)

    def test_things_that_cant_be(self):
        before = self.stands()
        for thing in WRONG_THINGS:
            cells = [0] * 16
            cells[6] = thing
            self.refused_everywhere(cells, 6)
        self.assertEqual(self.stands(), before)

    def test_too_few_and_too_many(self):
        before = self.stands()
        for many in range(16):
            self.refused_everywhere([0] * many, many)
        for many in (41, 60):
            self.refused_everywhere([("stop",)] * many, 40)
        self.refused_everywhere([0, ("fly",)], 1)
        self.refused_everywhere([0] * 40 + [-1], 40)
        self.refused_everywhere([0] * 39 + [-1] + [0] * 9, 39)
        self.assertEqual(self.stands(), before)

    def test_cells_that_can_be(self):
        for name, take in self.takes_cells().items():
            for many in (16, 40):
                for word in PARTS:
                    self.setUp()
                    take([good_row(word, 1)] * many)

    def test_ears_that_cant_be(self):
        before = self.stands()
        for name, take in self.takes_ears().items():
            for ear in WRONG_EARS:
                with self.subTest((name, ear)):
                    self.assertRaises(BadEar, take, ear)
        self.assertEqual(self.stands(), before)

    def test_ears_that_can_be(self):
        for ear in ([], [0], [999] * 20):
            self.setUp()
            for take in self.takes_ears().values():
                take(ear)

    def test_kinds_that_cant_be(self):
        for name, take in self.takes_kinds().items():
            for kind in WRONG_KINDS:
                with self.subTest((name, kind)):
                    self.assertRaises(BadKind, take, kind)

    def test_a_refusal_is_a_world_error(self):
        for take in (self.takes_cells()["come"], self.takes_kinds()["holds"]):
            self.assertRaises(WorldError, take, ())


class NotKept(unittest.TestCase):
    def test_what_unlike_tells_can_be_handed_in_and_changed(self):
        cells, ear, steps = unlike(NONE, "plain")
        host = new_host(NONE)
        host.come(cells, ear, 1)
        before = host.carried(0)
        cells[:] = [("stop",)] * 16
        ear.clear()
        self.assertEqual(host.carried(0), before)

    def test_grounds_are_kept(self):
        ground = Ground(ALL, 32)
        host = Host(ground, "plain")
        host.come(marked(5), [], 1)
        self.assertEqual(ground.all_cells(), [5] * 16 + [0] * 16)
