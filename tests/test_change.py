"""Point 2: change."""

import itertools
import unittest

from tests.helper import (EXAMPLE, EXAMPLE_NUMBERS, HUGE, RefusalCase, ask, cell, cells, change, drop, last, order,
                          pictures_around, state)


class ChangeTest(RefusalCase):
    def test_mark_and_lists_are_new_and_the_place_stays(self):
        self.assertEqual(ask(*EXAMPLE, change(5, 1, [31, 6], [9, 0]), cells(), cell(5))[-3:],
                         [[0], [4, 7, 5, 9, 8], [0, 1, 1, 2, 6, 31, 2, 0, 9]])

    def test_other_cells_stay(self):
        before, answer, after = pictures_around(EXAMPLE, EXAMPLE_NUMBERS, change(9, 1, [1, 2], [3]))
        self.assertEqual(answer, [0])
        self.assertEqual(after[3], [0, 2, 1, 2, 1, 2, 1, 3])
        self.assertEqual(before[:3] + before[4:], after[:3] + after[4:])

    def test_mark_is_taken_back(self):
        self.assertEqual(ask(*EXAMPLE, change(5, 1, [1]), state(5), change(5, 0, [1]), state(5))[-4:],
                         [[0], [1], [0], [0]])

    def test_empty_and_whole_lists(self):
        names = list(range(32))
        self.assertEqual(last(*EXAMPLE, change(8), cell(8)), [0, 3, 0, 0, 0])
        self.assertEqual(last(*EXAMPLE, change(8, 0, names, names[::-1]), cell(8)),
                         [0, 3, 0, 32, *names, 32, *names])

    def test_states_and_order_follow(self):
        self.assertEqual(last(*EXAMPLE, change(8, 0, [3], []), order()), [4, 5, 7, 8, 9])

    def test_own_number_and_own_names_are_no_hindrance(self):
        before, answer, after = pictures_around(EXAMPLE, EXAMPLE_NUMBERS, change(9, 0, [4], [2, 3]))
        self.assertEqual(answer, [0])
        self.assertEqual(before, after)

    def test_no_such_cell(self):
        for number in (1, 0, 100, -7, HUGE, -HUGE):
            self.refused(-8, EXAMPLE, EXAMPLE_NUMBERS, change(number))
        self.assertEqual(last(change(1)), [-8])
        self.assertEqual(last(*EXAMPLE, drop(7), change(7)), [-8])

    def test_mark_out_of_range(self):
        for mark in (-1, 2, HUGE, -HUGE):
            self.refused(-4, EXAMPLE, EXAMPLE_NUMBERS, change(7, mark))

    def test_name_out_of_range(self):
        for name in (-1, 32, HUGE, -HUGE):
            self.refused(-5, EXAMPLE, EXAMPLE_NUMBERS, change(7, 0, [name], []))
            self.refused(-5, EXAMPLE, EXAMPLE_NUMBERS, change(7, 0, [], [5, name]))

    def test_name_twice(self):
        self.refused(-6, EXAMPLE, EXAMPLE_NUMBERS, change(7, 0, [3, 5, 3], []))
        self.refused(-6, EXAMPLE, EXAMPLE_NUMBERS, change(7, 0, [], [31, 31]))

    def test_lists_of_forty(self):
        self.refused(-6, EXAMPLE, EXAMPLE_NUMBERS, change(7, 0, [index % 32 for index in range(40)], []))
        self.refused(-5, EXAMPLE, EXAMPLE_NUMBERS, change(7, 0, [], list(range(40))))

    def test_first_fitting_refusal_is_answered(self):
        for number, mark, outside, twice in itertools.product((9, 1), (1, 2), (False, True), (False, True)):
            fitting = [(-8, number == 1), (-4, mark == 2), (-5, outside), (-6, twice)]
            expected = [refusal for refusal, fits in fitting if fits]
            if not expected:
                continue
            for call in (change(number, mark, [4, 4] if twice else [4], [-1] if outside else []),
                         change(number, mark, [32] if outside else [4], [6, 6] if twice else [])):
                self.refused(expected[0], EXAMPLE, EXAMPLE_NUMBERS, call)


if __name__ == "__main__":
    unittest.main()
