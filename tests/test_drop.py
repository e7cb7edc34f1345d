"""Point 3: drop."""

import unittest

from tests.helper import (EXAMPLE, EXAMPLE_NUMBERS, FULL, HUGE, RefusalCase, add, ask, cell, cells, drop, last,
                          makers, readers, state)


class DropTest(RefusalCase):
    def test_cells_behind_stand_one_earlier(self):
        self.assertEqual(ask(*EXAMPLE, drop(5), cells(), cell(7), cell(9), cell(8))[-5:],
                         [[0], [3, 7, 9, 8], [0, 0, 0, 1, 2, 1, 1], [0, 1, 0, 1, 4, 2, 2, 3], [0, 2, 0, 1, 0, 1, 0]])

    def test_first_and_last(self):
        self.assertEqual(last(*EXAMPLE, drop(7), cells()), [3, 5, 9, 8])
        self.assertEqual(last(*EXAMPLE, drop(8), cells()), [3, 7, 5, 9])

    def test_the_cell_is_gone(self):
        self.assertEqual(ask(*EXAMPLE, drop(5), cell(5), state(5), makers(1), readers(1), state(7), drop(5))[-7:],
                         [[0], [-8], [-8], [0], [1, 7], [4], [-8]])

    def test_the_number_may_be_added_again(self):
        self.assertEqual(ask(*EXAMPLE, drop(5), add(5, 3, 0, [1]), cells(), cell(5), state(7))[-4:],
                         [[0], [4, 7, 9, 8, 5], [0, 3, 0, 1, 1, 0], [0]])

    def test_all_cells_one_by_one(self):
        drops = [drop(number) for number in range(12, 0, -1)]
        self.assertEqual(ask(*FULL, *drops, cells())[-13:], [[0]] * 13)

    def test_no_such_cell(self):
        for number in (1, 0, 3, 99, 100, -5, HUGE, -HUGE):
            self.refused(-8, EXAMPLE, EXAMPLE_NUMBERS, drop(number))
        self.assertEqual(last(drop(1)), [-8])


if __name__ == "__main__":
    unittest.main()
