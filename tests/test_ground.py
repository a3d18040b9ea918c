"""Point 8, its first sentence, and what a ground tells."""

import unittest

from guestworlds.errors import BadCount, BadKind
from guestworlds.ground import Ground
from tests.programs import ALL, NONE


class Grounds(unittest.TestCase):
    def test_counts_that_can_be(self):
        for wide in (16, 17, 40, 41, 199, 200):
            for kind in (NONE, ALL):
                self.assertEqual(Ground(kind, wide).all_cells(), [0] * wide)

    def test_counts_that_cant_be(self):
        for wide in (15, 201, 0, -1, -16, 1000, True, False):
            with self.subTest(wide):
                self.assertRaises(BadCount, Ground, NONE, wide)

    def test_kinds_that_cant_be(self):
        for kind in ((), (True,) * 6, (True,) * 8, (1,) * 7, (0,) * 7, (False,) * 6 + (0,)):
            with self.subTest(kind):
                self.assertRaises(BadKind, Ground, kind, 16)

    def test_the_kind_is_refused_first(self):
        self.assertRaises(BadKind, Ground, (), 15)
        self.assertRaises(BadKind, Ground, (1,) * 7, 201)

    def test_nothing_was_said(self):
        self.assertEqual(Ground(NONE, 20).said(), [])

    def test_told_lists_may_be_changed(self):
        ground = Ground(NONE, 16)
        ground.all_cells()[3] = 9
        ground.all_cells().clear()
        ground.said().append(4)
        self.assertEqual(ground.all_cells(), [0] * 16)
        self.assertEqual(ground.said(), [])
        self.assertIs(type(ground.all_cells()), list)
        self.assertIs(type(ground.said()), list)

    def test_two_grounds(self):
        one = Ground(NONE, 16)
        other = Ground(NONE, 16)
        self.assertIsNot(one.all_cells(), other.all_cells())
        self.assertEqual(one.all_cells(), other.all_cells())
