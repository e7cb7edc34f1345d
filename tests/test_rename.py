"""Point 6: rename."""

import unittest

from tests.helper import (EXAMPLE, EXAMPLE_NUMBERS, HUGE, RefusalCase, ask, cell, last, makers, pictures_around,
                          readers, rename, row, state)


class RenameTest(RefusalCase):
    def test_stands_wherever_the_old_one_stood(self):
        self.assertEqual(ask(*EXAMPLE, rename(2, 31), makers(31), readers(31), makers(2), readers(2))[-5:],
                         [[2], [1, 7], [1, 9], [0], [0]])

    def test_a_cell_with_the_name_in_both_lists_counts_once(self):
        self.assertEqual(ask(*EXAMPLE, rename(0, 20), cell(8), state(8))[-3:], [[1], [0, 3, 0, 1, 20, 1, 20], [3]])

    def test_told_ascending_behind_it(self):
        setup = row((1, [5, 9, 13], [4, 9, 12]))
        self.assertEqual(ask(*setup, rename(9, 31), cell(1))[-2:], [[1], [0, 0, 0, 3, 5, 13, 31, 3, 4, 12, 31]])
        self.assertEqual(ask(*setup, rename(9, 0), cell(1))[-2:], [[1], [0, 0, 0, 3, 0, 5, 13, 3, 0, 4, 12]])

    def test_mark_number_and_other_names_stay(self):
        setup = row((1, [5, 9], [4], 1), (2, [6], [5], 1))
        self.assertEqual(ask(*setup, rename(9, 10), cell(1), cell(2))[-3:],
                         [[1], [0, 0, 1, 2, 5, 10, 1, 4], [0, 1, 1, 1, 6, 1, 5]])

    def test_all_cells(self):
        setup = row(*[(number, [7], [7]) for number in range(1, 13)])
        self.assertEqual(ask(*setup, rename(7, 8), makers(8), readers(8), makers(7))[-4:],
                         [[12], [12, *range(1, 13)], [12, *range(1, 13)], [0]])

    def test_old_name_nowhere(self):
        before, answer, after = pictures_around(EXAMPLE, EXAMPLE_NUMBERS, rename(20, 21))
        self.assertEqual(answer, [0])
        self.assertEqual(before, after)
        self.assertEqual(last(rename(0, 31)), [0])

    def test_equal_names(self):
        self.assertEqual(last(*EXAMPLE, rename(20, 20)), [0])
        self.assertEqual(last(rename(31, 31)), [0])
        for name in (0, 1, 2, 3, 4):
            self.refused(-9, EXAMPLE, EXAMPLE_NUMBERS, rename(name, name))

    def test_name_out_of_range(self):
        for name in (-1, 32, HUGE, -HUGE):
            self.refused(-5, EXAMPLE, EXAMPLE_NUMBERS, rename(name, 20))
            self.refused(-5, EXAMPLE, EXAMPLE_NUMBERS, rename(1, name))
            self.refused(-5, EXAMPLE, EXAMPLE_NUMBERS, rename(name, name))
        self.assertEqual(last(rename(32, 32)), [-5])

    def test_new_name_stands_somewhere(self):
        self.refused(-9, EXAMPLE, EXAMPLE_NUMBERS, rename(1, 4))
        self.refused(-9, EXAMPLE, EXAMPLE_NUMBERS, rename(1, 3))
        self.refused(-9, EXAMPLE, EXAMPLE_NUMBERS, rename(20, 4))
        self.refused(-9, EXAMPLE, EXAMPLE_NUMBERS, rename(20, 3))

    def test_out_of_range_before_standing_somewhere(self):
        for name in (-1, 32):
            self.refused(-5, EXAMPLE, EXAMPLE_NUMBERS, rename(name, 1))

    def test_new_name_may_be_used_once_it_is_away(self):
        self.assertEqual(ask(*EXAMPLE, rename(2, 31), rename(4, 2), cell(9))[-3:],
                         [[2], [1], [0, 2, 0, 1, 2, 2, 3, 31]])


if __name__ == "__main__":
    unittest.main()
