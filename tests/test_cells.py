"""Points 2, 3 and 4: what can't be handed in, and with what it is refused."""

import unittest

from guestworlds.errors import BadCells, BadEar, BadKind
from guestworlds.machine import Machine, gone_on
from tests.programs import ALL, NONE, filled

# Each word with what its parts are: a box, a number, or one of the first two boxes.
PARTS = {
    "put": ("box", "number"),
    "add": ("box", "box", "box"),
    "less": ("box", "box", "box"),
    "load": ("box", "box"),
    "store": ("box", "box"),
    "zero": ("box", "number"),
    "go": ("number",),
    "call": ("number",),
    "say": ("box",),
    "hear": ("box",),
    "which": ("box",),
    "room": ("box",),
    "enter": ("pair",),
    "alarm": ("box",),
    "stop": (),
}
LAST = {"box": 3, "number": 999, "pair": 1}


def refused_at(cells):
    """The at with which these cells are refused, None if they aren't."""
    try:
        Machine(NONE, cells, [])
    except BadCells as e:
        return e.at
    return None


def with_thing(thing, at=6):
    cells = [0] * 16
    cells[at] = thing
    return cells


def good_row(word, which):
    """A row of the word with the least (0) or the greatest (1) parts."""
    return (word, *(LAST[part] * which for part in PARTS[word]))


class Rows(unittest.TestCase):
    def test_every_row_can_be(self):
        for word, parts in PARTS.items():
            for at in range(len(parts) + 1):
                row = list(good_row(word, 0))
                if at:
                    row[at] = LAST[parts[at - 1]]
                with self.subTest(row):
                    self.assertIsNone(refused_at(with_thing(tuple(row))))
            self.assertIsNone(refused_at(with_thing(good_row(word, 1))))

    def test_every_box_can_be(self):
        for box in range(4):
            self.assertIsNone(refused_at(with_thing(("say", box))))

    def test_parts_that_cant_be(self):
        for word, parts in PARTS.items():
            for at, part in enumerate(parts, 1):
                for wrong in (-1, LAST[part] + 1, LAST[part] + 1000, True, False, "0", "", "put"):
                    for which in (0, 1):
                        row = list(good_row(word, which))
                        row[at] = wrong
                        with self.subTest(row):
                            self.assertEqual(refused_at(with_thing(tuple(row))), 6)

    def test_too_few_and_too_many_parts(self):
        for word in PARTS:
            row = good_row(word, 0)
            with self.subTest(word):
                self.assertEqual(refused_at(with_thing(row + (0,))), 6)
                self.assertEqual(refused_at(with_thing(row + (0, 0))), 6)
                self.assertEqual(refused_at(with_thing(row + ("",))), 6)
                if len(row) > 1:
                    self.assertEqual(refused_at(with_thing(row[:-1])), 6)

    def test_other_words(self):
        for word in ("", "Put", "PUT", "put ", " put", "fly", "sub", "at", 0, 5, -1, True, False):
            for rest in ((), (0,), (0, 0), (0, 0, 0)):
                with self.subTest((word, *rest)):
                    self.assertEqual(refused_at(with_thing((word, *rest))), 6)

    def test_a_word_behind_its_numbers(self):
        self.assertEqual(refused_at(with_thing((0, "say"))), 6)
        self.assertEqual(refused_at(with_thing((0, 5, "put"))), 6)

    def test_an_empty_tuple(self):
        self.assertEqual(refused_at(with_thing(())), 6)


class Cells(unittest.TestCase):
    def test_numbers_that_can_be(self):
        for number in (0, 1, 500, 999):
            self.assertIsNone(refused_at(with_thing(number)))

    def test_numbers_that_cant_be(self):
        for number in (-1, 1000, -999, 10 ** 30, True, False):
            with self.subTest(number):
                self.assertEqual(refused_at(with_thing(number)), 6)

    def test_how_many_can_be(self):
        for many in range(16, 41):
            self.assertIsNone(refused_at([0] * many))

    def test_too_few_are_told(self):
        for many in range(16):
            self.assertEqual(refused_at([0] * many), many)

    def test_a_forty_first_can_not_be(self):
        self.assertEqual(refused_at([0] * 41), 40)
        self.assertEqual(refused_at([0] * 80), 40)
        self.assertEqual(refused_at([("stop",)] * 41), 40)

    def test_each_place_is_told(self):
        for at in range(40):
            cells = [0] * 40
            cells[at] = ("fly",)
            self.assertEqual(refused_at(cells), at)

    def test_the_first_of_several_is_told(self):
        cells = [0] * 40
        cells[9] = 1000
        cells[4] = ("say", 4)
        cells[30] = -1
        self.assertEqual(refused_at(cells), 4)

    def test_one_that_cant_be_among_too_few(self):
        self.assertEqual(refused_at([0, 0, -1]), 2)
        self.assertEqual(refused_at([1000] * 15), 0)
        self.assertEqual(refused_at([0] * 14 + [True]), 14)

    def test_one_that_cant_be_among_too_many(self):
        self.assertEqual(refused_at([0] * 39 + [("go",), 0]), 39)
        self.assertEqual(refused_at([0] * 40 + [-1]), 40)
        self.assertEqual(refused_at([0] * 41 + [-1]), 40)

    def test_gone_on_takes_cells_that_can_be_alone(self):
        for many in (16, 40):
            bundle = Machine(NONE, [0] * many, []).carried()
            self.assertEqual(gone_on(NONE, bundle).carried(), bundle)
        for cells, at in (((0,) * 15, 15), ((0,) * 41, 40), ((0,) * 9 + (1000,) * 9, 9)):
            with self.assertRaises(BadCells) as caught:
                gone_on(NONE, (cells, *bundle[1:]))
            self.assertEqual(caught.exception.at, at)
            self.assertRaises(BadKind, gone_on, (), (cells, *bundle[1:]))


class Kinds(unittest.TestCase):
    WRONG = (
        (), (True,), (True,) * 6, (False,) * 6, (True,) * 8, (False,) * 8,
        (0,) * 7, (1,) * 7, (2,) * 7, (-1,) * 7,
        *[(True,) * at + (wrong,) + (True,) * (6 - at) for at in range(7) for wrong in (0, 1)],
        (True,) * 7 + (1,),
    )

    def test_kinds_that_can_be(self):
        for at in range(7):
            kind = tuple(at == other for other in range(7))
            self.assertEqual(Machine(kind, [0] * 16, []).go(0), 0)
        Machine(ALL, [0] * 16, [])
        Machine(NONE, [0] * 16, [])

    def test_a_machine_refuses_others(self):
        for kind in self.WRONG:
            with self.subTest(kind):
                self.assertRaises(BadKind, Machine, kind, [0] * 16, [])

    def test_gone_on_refuses_others(self):
        bundle = Machine(NONE, [0] * 16, []).carried()
        for kind in self.WRONG:
            with self.subTest(kind):
                self.assertRaises(BadKind, gone_on, kind, bundle)


class Ears(unittest.TestCase):
    def test_ears_that_can_be(self):
        for ear in ([], [0], [999], [0] * 20, [999] * 20, list(range(20))):
            self.assertEqual(Machine(NONE, [0] * 16, ear).carried()[7], tuple(ear))

    def test_ears_that_cant_be(self):
        wrong = [[0] * 21, [0] * 40, [-1], [1000], [True], [False], [0] * 20 + [-1]]
        wrong += [[5] * at + [bad] + [5] * (19 - at) for at in (0, 10, 19) for bad in (-1, 1000, True)]
        for ear in wrong:
            with self.subTest(ear):
                self.assertRaises(BadEar, Machine, NONE, [0] * 16, ear)


class Order(unittest.TestCase):
    def test_what_is_handed_in_first_is_refused_first(self):
        self.assertRaises(BadKind, Machine, (), [], [-1])
        self.assertRaises(BadKind, Machine, (), [0] * 16, [-1])
        self.assertRaises(BadKind, Machine, (), [-1], [])
        self.assertRaises(BadCells, Machine, NONE, [], [-1])
        self.assertRaises(BadCells, Machine, NONE, filled([("fly",)]), [0] * 21)
        self.assertRaises(BadEar, Machine, NONE, [0] * 16, [-1])
