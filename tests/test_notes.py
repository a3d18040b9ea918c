"""Point 15: cells written as texts, and read from them."""

import unittest

from guestworlds.errors import BadCells, BadText
from guestworlds.machine import Machine
from guestworlds.notes import read, written
from tests.programs import NONE
from tests.test_cells import LAST, PARTS, good_row
from tests.worlds import chance_of, some_things

NUMBER_PARTS = {"box": (0, 1, 2, 3), "pair": (0, 1), "number": (0, 1, 9, 10, 42, 99, 100, 305, 999)}


def text_with(row, at=0, many=16):
    """A text in which all rows can be, but perhaps this one."""
    rows = ["0"] * many
    rows[at] = row
    return "\n".join(rows)


def refused(text):
    """The error with which a text is refused, and its number; None if it isn't."""
    try:
        read(text)
    except BadText as e:
        return "text", e.row
    except BadCells as e:
        return "cells", e.at
    return None


class Written(unittest.TestCase):
    def test_numbers(self):
        numbers = [0, 5, 9, 10, 42, 99, 100, 305, 999, 0, 0, 0, 0, 0, 0, 1]
        self.assertEqual(written(numbers), "0\n5\n9\n10\n42\n99\n100\n305\n999\n0\n0\n0\n0\n0\n0\n1")

    def test_each_word(self):
        cells = [
            ("put", 3, 999), ("add", 0, 1, 2), ("less", 3, 2, 1), ("load", 0, 1), ("store", 1, 0), ("zero", 2, 15),
            ("go", 7), ("call", 0), ("say", 1), ("hear", 2), ("which", 3), ("room", 0), ("enter", 1), ("alarm", 2),
            ("stop",), 12,
        ]
        self.assertEqual(written(cells), (
            "put 3 999\nadd 0 1 2\nless 3 2 1\nload 0 1\nstore 1 0\nzero 2 15\ngo 7\ncall 0\nsay 1\nhear 2\nwhich 3\n"
            "room 0\nenter 1\nalarm 2\nstop\n12"
        ))

    def test_how_many(self):
        for many in range(16, 41):
            self.assertEqual(written([7] * many).split("\n"), ["7"] * many)

    def test_cells_that_cant_be(self):
        wrong = [([0] * 15, 15), ([], 0), ([0] * 41, 40), ([0] * 80, 40), ([0] * 5 + [1000] + [0] * 15, 5),
                 ([0] * 3 + [("say", 4)], 3), ([True] * 16, 0), ([0] * 16 + [("fly",)], 16), ([0] * 20 + [-1, ()], 20)]
        for cells, at in wrong:
            with self.subTest(cells):
                with self.assertRaises(BadCells) as caught:
                    written(cells)
                self.assertEqual(caught.exception.at, at)

    def test_the_list_is_not_changed(self):
        cells = [("say", 1)] * 16
        written(cells)
        self.assertEqual(cells, [("say", 1)] * 16)


class ReadAgain(unittest.TestCase):
    def test_each_number(self):
        for first in range(0, 1000, 40):
            cells = list(range(first, first + 40))
            self.assertEqual(read(written(cells)), cells)

    def test_each_word_with_each_part(self):
        for word, parts in PARTS.items():
            rows = [good_row(word, 0), good_row(word, 1)]
            for at, part in enumerate(parts, 1):
                for number in NUMBER_PARTS[part]:
                    row = list(good_row(word, 0))
                    row[at] = number
                    rows.append(tuple(row))
            for row in rows:
                with self.subTest(row):
                    cells = [row] * 16
                    self.assertEqual(read(written(cells)), cells)

    def test_cells_of_all_sorts(self):
        for seed in range(100):
            chance = chance_of("notes", seed)
            cells = some_things(chance, chance.randrange(16, 41))
            told = read(written(cells))
            self.assertEqual(told, cells)
            self.assertEqual([type(thing) for thing in told], [type(thing) for thing in cells])

    def test_what_is_read_can_be_handed_in(self):
        machine = Machine(NONE, read("\n".join(["put 0 42", "say 0", "stop"] + ["0"] * 13)), [])
        machine.go(9)
        self.assertEqual(machine.said(), [42])

    def test_the_told_list_may_be_changed(self):
        text = text_with("stop")
        read(text).clear()
        self.assertEqual(read(text), [("stop",)] + [0] * 15)
        self.assertIs(type(read(text)), list)


class BadTexts(unittest.TestCase):
    def all_refused(self, rows):
        for row in rows:
            for at, many in ((0, 16), (7, 16), (15, 16), (39, 40)):
                with self.subTest((row, at)):
                    self.assertEqual(refused(text_with(row, at, many)), ("text", at))

    def test_rows_that_can_be(self):
        for row in ("0", "7", "10", "999", "stop", "say 0", "put 3 999", "put 0 0", "add 0 0 0", "enter 1"):
            for at in (0, 15):
                self.assertIsNone(refused(text_with(row, at)))

    def test_needless_zeroes(self):
        self.all_refused(["00", "000", "01", "007", "010", "put 0 00", "put 00 0", "put 0 07", "put 0 010", "say 01",
                          "add 0 0 00", "go 099"])

    def test_signs_before_numbers(self):
        self.all_refused(["-1", "+1", "-0", "+0", "- 1", "put 0 -1", "put 0 +1", "say -0", "put +0 1"])

    def test_more_than_three_figures(self):
        self.all_refused(["1000", "0000", "9999", "12345", "put 0 1000", "put 1000 0", "say 1000", "go 99999"])

    def test_what_is_no_number(self):
        self.all_refused(["1.0", "1e2", "1_0", "0x1", "x", "a1", "1a", "1,", "put 0 x", "put x 0", "say 1.", "go 1_0",
                          "go ,", "~", "#", "[0]", "('stop',)", "True", "None", "go True", "12 "])

    def test_other_words(self):
        self.all_refused(["fly", "STOP", "Stop", "Say 0", "SAY 0", "sa 0", "says 0", "stop.", "put,0,0", "fly 0", "0 say",
                          "0 0", "0 0 0", "say0", "put0 0", "0 stop", "9 put 0 0"])

    def test_too_few_and_too_many_numbers(self):
        for word in PARTS:
            numbers = ["0"] * len(PARTS[word])
            wrong = [numbers + ["0"], numbers + ["0", "0"], numbers + ["stop"], numbers + [word]]
            if numbers:
                wrong += [numbers[:-1], []]
            self.all_refused([" ".join([word, *parts]) for parts in wrong])

    def test_blanks(self):
        self.all_refused([" ", "  ", " 0", "0 ", "5  ", "  5", " say 0", "say 0 ", "say  0", "put 0  0", "put  0 0", " stop",
                          "stop ", "put 0 0 ", "add 0 0  0"])

    def test_empty_rows(self):
        self.all_refused([""])
        self.assertEqual(refused("0\n" * 16), ("text", 16))
        self.assertEqual(refused("\n" + text_with("0")), ("text", 0))
        self.assertEqual(refused("0\n0\n\n" + text_with("0")), ("text", 2))
        self.assertEqual(refused("\n"), ("text", 0))

    def test_a_line_end_at_the_end(self):
        for many in (3, 16, 40):
            self.assertEqual(refused("\n".join(["stop"] * many) + "\n"), ("text", many))

    def test_the_text_without_signs(self):
        self.assertEqual(refused(""), ("text", 0))

    def test_the_first_row_that_cant_be(self):
        self.assertEqual(refused("0\n1\n02\nfly\n" + text_with("")), ("text", 2))
        self.assertEqual(refused("\n".join(["say 0"] * 9 + ["say"] * 9)), ("text", 9))

    def test_ahead_of_cells_that_cant_be(self):
        self.assertEqual(refused("say 4\n0\nfly"), ("text", 2))
        self.assertEqual(refused("\n".join(["say 4"] * 30 + ["say"])), ("text", 30))
        self.assertEqual(refused("\n".join(["0"] * 50 + ["00"])), ("text", 50))
        self.assertEqual(refused("0\n0\n00"), ("text", 2))


class CellsThatCantBe(unittest.TestCase):
    def test_boxes_beyond(self):
        for word, parts in PARTS.items():
            for at, part in enumerate(parts):
                if part != "number":
                    for number in (LAST[part] + 1, LAST[part] + 6, 99, 999):
                        numbers = ["0"] * len(parts)
                        numbers[at] = str(number)
                        row = " ".join([word, *numbers])
                        for where in (0, 9, 15):
                            with self.subTest((row, where)):
                                self.assertEqual(refused(text_with(row, where)), ("cells", where))

    def test_the_first_of_several(self):
        self.assertEqual(refused("\n".join(["0"] * 4 + ["say 4", "enter 2"] + ["0"] * 20)), ("cells", 4))

    def test_too_few_rows(self):
        for many in range(1, 16):
            self.assertEqual(refused("\n".join(["5"] * many)), ("cells", many))
        self.assertEqual(refused("0\nsay 4"), ("cells", 1))

    def test_too_many_rows(self):
        for many in (41, 42, 90):
            self.assertEqual(refused("\n".join(["stop"] * many)), ("cells", 40))
        self.assertEqual(refused("\n".join(["0"] * 39 + ["say 9"] + ["0"] * 9)), ("cells", 39))
