import unittest

from guestworlds import errors
from guestworlds.errors import BadCells, BadText, WorldError

PLAIN = ("BadKind", "BadEar", "BadCount", "BadWay", "BadShare", "NoRoom", "NoGuest", "TooMany", "Busy")


class Errors(unittest.TestCase):
    def test_world_error_is_a_value_error(self):
        self.assertTrue(issubclass(WorldError, ValueError))

    def test_every_refusal_is_a_world_error(self):
        for name in PLAIN + ("BadCells", "BadText"):
            with self.subTest(name):
                self.assertEqual(getattr(errors, name).__bases__, (WorldError,))

    def test_the_refusals_are_several(self):
        classes = [getattr(errors, name) for name in PLAIN + ("BadCells", "BadText", "WorldError")]
        self.assertEqual(len(set(classes)), 12)

    def test_plain_refusals_take_words(self):
        for name in PLAIN:
            with self.subTest(name):
                self.assertEqual(str(getattr(errors, name)("why")), "why")

    def test_bad_cells_holds_at(self):
        self.assertEqual(BadCells(7).at, 7)
        self.assertEqual(BadCells(0).at, 0)

    def test_bad_text_holds_row(self):
        self.assertEqual(BadText(3).row, 3)
        self.assertEqual(BadText(0).row, 0)
