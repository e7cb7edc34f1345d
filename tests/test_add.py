"""Point 1: add."""

import itertools
import unittest

from tests.helper import (EXAMPLE, EXAMPLE_NUMBERS, FULL, FULL_NUMBERS, HUGE, RefusalCase, add, ask, cell, cells,
                          drop, last, row)


class AddTest(RefusalCase):
    def test_first_cell(self):
        self.assertEqual(ask(add(5, 0, 1, [3, 1], [4]), cells(), cell(5)),
                         [[0], [1, 5], [0, 0, 1, 2, 1, 3, 1, 4]])

    def test_later_cells_stand_one_later(self):
        setup = row((1, [], []), (2, [], []), (3, [], []))
        self.assertEqual(last(*setup, add(9, 0), cells()), [4, 9, 1, 2, 3])
        self.assertEqual(last(*setup, add(9, 1), cells()), [4, 1, 9, 2, 3])
        self.assertEqual(last(*setup, add(9, 2), cells()), [4, 1, 2, 9, 3])
        self.assertEqual(last(*setup, add(9, 3), cells()), [4, 1, 2, 3, 9])

    def test_ends_of_ranges_are_taken(self):
        self.assertEqual(ask(add(1, 0, 0, [0], [31]), add(99, 1, 1, [31], [0]), cell(1), cell(99)),
                         [[0], [0], [0, 0, 0, 1, 0, 1, 31], [0, 1, 1, 1, 31, 1, 0]])

    def test_empty_and_whole_lists(self):
        names = list(range(32))
        self.assertEqual(ask(add(1, 0, 0, [], []), cell(1)), [[0], [0, 0, 0, 0, 0]])
        self.assertEqual(ask(add(1, 0, 0, names[::-1], names), cell(1)),
                         [[0], [0, 0, 0, 32, *names, 32, *names]])

    def test_names_are_kept_ascending(self):
        self.assertEqual(last(add(1, 0, 0, [31, 0, 17, 4], [9, 30, 2]), cell(1)),
                         [0, 0, 0, 4, 0, 4, 17, 31, 3, 2, 9, 30])

    def test_a_name_in_both_lists(self):
        self.assertEqual(ask(add(1, 0, 0, [3, 2], [2, 3]), cell(1)), [[0], [0, 0, 0, 2, 2, 3, 2, 2, 3]])

    def test_number_out_of_range(self):
        for number in (0, 100, -1, -5, HUGE, -HUGE):
            self.refused(-1, EXAMPLE, EXAMPLE_NUMBERS, add(number, 0))

    def test_number_there_already(self):
        for number in EXAMPLE_NUMBERS:
            self.refused(-2, EXAMPLE, EXAMPLE_NUMBERS, add(number, 0))

    def test_place_out_of_range(self):
        for place in (-1, 5, 12, HUGE, -HUGE):
            self.refused(-3, EXAMPLE, EXAMPLE_NUMBERS, add(1, place))
        self.refused(-3, [], [], add(1, 1))

    def test_mark_out_of_range(self):
        for mark in (-1, 2, HUGE, -HUGE):
            self.refused(-4, EXAMPLE, EXAMPLE_NUMBERS, add(1, 0, mark))

    def test_name_out_of_range(self):
        for name in (-1, 32, HUGE, -HUGE):
            self.refused(-5, EXAMPLE, EXAMPLE_NUMBERS, add(1, 0, 0, [1, name, 2], []))
            self.refused(-5, EXAMPLE, EXAMPLE_NUMBERS, add(1, 0, 0, [], [1, 2, name]))

    def test_name_twice(self):
        self.refused(-6, EXAMPLE, EXAMPLE_NUMBERS, add(1, 0, 0, [6, 3, 6], []))
        self.refused(-6, EXAMPLE, EXAMPLE_NUMBERS, add(1, 0, 0, [], [0, 0]))

    def test_out_of_range_in_one_list_before_twice_in_the_other(self):
        self.refused(-5, EXAMPLE, EXAMPLE_NUMBERS, add(1, 0, 0, [6, 6], [32]))
        self.refused(-5, EXAMPLE, EXAMPLE_NUMBERS, add(1, 0, 0, [32], [6, 6]))
        self.refused(-5, EXAMPLE, EXAMPLE_NUMBERS, add(1, 0, 0, [40, 40], []))

    def test_lists_of_forty(self):
        many = [index % 32 for index in range(40)]
        self.refused(-6, EXAMPLE, EXAMPLE_NUMBERS, add(1, 0, 0, many, []))
        self.refused(-6, EXAMPLE, EXAMPLE_NUMBERS, add(1, 0, 0, [], many))
        self.refused(-5, EXAMPLE, EXAMPLE_NUMBERS, add(1, 0, 0, list(range(40)), many))
        self.refused(-5, EXAMPLE, EXAMPLE_NUMBERS, add(1, 0, 0, many, [HUGE] * 40))

    def test_twelve_cells_at_most(self):
        self.assertEqual(last(*FULL), [0])
        for place in (0, 5, 12):
            self.refused(-7, FULL, FULL_NUMBERS, add(13, place))
        self.refused(-3, FULL, FULL_NUMBERS, add(13, 13))
        self.assertEqual(ask(*FULL, drop(4), add(13, 11), cells())[-2:],
                         [[0], [12, 1, 2, 3, 5, 6, 7, 8, 9, 10, 11, 12, 13]])

    def test_first_fitting_refusal_is_answered(self):
        for full, number, place, mark, outside, twice in itertools.product(
                (False, True), (50, 0, 2), (0, 13), (0, 2), (False, True), (False, True)):
            setup, numbers = (FULL, FULL_NUMBERS) if full else (FULL[:3], FULL_NUMBERS[:3])
            fitting = [
                (-1, number == 0), (-2, number == 2), (-3, place == 13), (-4, mark == 2),
                (-5, outside), (-6, twice), (-7, full),
            ]
            expected = [refusal for refusal, fits in fitting if fits]
            if not expected:
                continue
            call = add(number, place, mark, [20, 20] if twice else [20], [32] if outside else [31])
            self.refused(expected[0], setup, numbers, call)


if __name__ == "__main__":
    unittest.main()
