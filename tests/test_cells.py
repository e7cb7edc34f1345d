"""Points 7 and 8: cells and cell."""

import unittest

from tests.helper import EXAMPLE, FULL, HUGE, add, ask, cell, cells, last, row


class CellsTest(unittest.TestCase):
    def test_none(self):
        self.assertEqual(last(cells()), [0])

    def test_in_order_of_place_not_of_number(self):
        self.assertEqual(last(*EXAMPLE, cells()), [4, 7, 5, 9, 8])
        self.assertEqual(last(add(99, 0), add(1, 0), add(50, 1), cells()), [3, 1, 50, 99])

    def test_twelve(self):
        self.assertEqual(last(*FULL, cells()), [12, *range(1, 13)])

    def test_sick_cells_are_told_too(self):
        self.assertEqual(last(*row((3, [], [], 1), (2, [1], [1])), cells()), [2, 3, 2])


class CellTest(unittest.TestCase):
    def test_example(self):
        self.assertEqual(ask(*EXAMPLE, cell(7), cell(5), cell(9), cell(8))[-4:], [
            [0, 0, 0, 1, 2, 1, 1],
            [0, 1, 0, 1, 1, 0],
            [0, 2, 0, 1, 4, 2, 2, 3],
            [0, 3, 0, 1, 0, 1, 0],
        ])

    def test_mark_and_unsorted_names(self):
        self.assertEqual(last(add(99, 0, 1, [10, 9, 31, 0], [22, 3]), cell(99)), [0, 0, 1, 4, 0, 9, 10, 31, 2, 3, 22])

    def test_last_place(self):
        self.assertEqual(last(*FULL, cell(12)), [0, 11, 0, 1, 12, 0])

    def test_no_such_cell(self):
        for number in (1, 0, 100, -7, HUGE, -HUGE):
            self.assertEqual(last(*EXAMPLE, cell(number)), [-8])
        self.assertEqual(last(cell(1)), [-8])


if __name__ == "__main__":
    unittest.main()
