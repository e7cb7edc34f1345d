"""Point 23: suppose."""

import itertools
import unittest

from tests.helper import (EXAMPLE, FULL, FULL_NUMBERS, HUGE, LINE, ROUND, WRONG_NUMBERS, QuestionCase, ask, change,
                          drop, last, net, row, state, suppose)


class SupposeTest(QuestionCase):
    def test_example(self):
        self.tells([2, 9, 4, 0, 8, 3, 0], EXAMPLE, suppose(8, 0, [3]))
        self.tells([2, 7, 0, 6, 5, 0, 1], EXAMPLE, suppose(5, 1, [1]))
        self.tells([2, 7, 0, 4, 5, 0, 4], EXAMPLE, suppose(5, 0, [6], [7]))

    def test_nothing_would_be_other(self):
        self.tells([0], EXAMPLE, suppose(9, 0, [4], [3, 2]), suppose(7, 0, [2], [1]), suppose(9, 0, [], [31]))
        self.tells([0], FULL, *[suppose(number) for number in FULL_NUMBERS])

    def test_the_cell_alone(self):
        self.tells([1, 9, 4, 1], EXAMPLE, suppose(9, 1, [4], [2, 3]))
        self.tells([1, 8, 3, 0], EXAMPLE, suppose(8))
        self.tells([1, 9, 4, 0], EXAMPLE, suppose(9, 0, [4], [2]))

    def test_others_alone(self):
        # Cell 5 stays clear, but it no longer makes what 7 reads.
        self.tells([1, 7, 0, 4], EXAMPLE, suppose(5, 0, [10]))

    def test_order_of_place(self):
        setup = net((50, [9]), (3, []), (9, []), (4, [50]), (99, [9]))
        self.tells([4, 50, 0, 6, 9, 0, 1, 4, 0, 6, 99, 0, 6], setup, suppose(9, 1, [2]))

    def test_a_circle_is_closed_and_opened(self):
        self.tells([12] + [value for number in range(1, 13) for value in (number, 0, 3)], LINE,
                   suppose(12, 0, [11], [0]))
        self.tells([12] + [value for number in range(1, 13) for value in (number, 3, 0)], ROUND, suppose(12, 0, [11]))

    def test_a_name_made_twice(self):
        setup = row((1, [1], []), (2, [1], []), (3, [3], [1]), (4, [], [3]))
        self.tells([4, 1, 2, 0, 2, 2, 0, 3, 5, 0, 4, 6, 0], setup, suppose(2))
        mended = [*setup, change(2)]
        self.tells([4, 1, 0, 2, 2, 0, 2, 3, 0, 5, 4, 0, 6], mended, suppose(2, 0, [1]))

    def test_one_sickness_for_another(self):
        setup = row((1, [1], [], 1), (2, [], [1]))
        self.tells([2, 1, 1, 4, 2, 6, 4], setup, suppose(1, 0, [], [9]))
        self.tells([1, 1, 1, 3], setup, suppose(1, 0, [1], [1]))

    def test_twelve_cells_are_no_hindrance(self):
        self.tells([1, 12, 0, 1], FULL, suppose(12, 1, [12]))

    def test_empty_and_whole_lists(self):
        names = list(range(32))
        self.tells([4, 7, 0, 2, 5, 0, 2, 9, 4, 2, 8, 3, 2], EXAMPLE, suppose(8, 0, names, names),
                   suppose(8, 0, names[::-1], []))
        self.tells([1, 8, 3, 0], EXAMPLE, suppose(8, 0, [], []))
        self.tells([1, 8, 3, 4], EXAMPLE, suppose(8, 0, [], names))

    def test_tells_what_the_change_then_does(self):
        setup = net((1, [2]), (2, [3, 5]), (3, [4]), (4, [3, 6]), (5, []), (6, [], 1), (7, [1, 5]))
        numbers = range(1, 8)
        looks = [state(number) for number in numbers]
        for number, broken, makes, reads in itertools.product(
                numbers, (0, 1), ([], [1], [4, 2], [31]), ([], [3], [0, 5], [6, 30])):
            before = ask(*setup, *looks)[-7:]
            told, *after = ask(*setup, suppose(number, broken, makes, reads), change(number, broken, makes, reads),
                               *looks)[-9:]
            other = [(cell, old[0], new[0]) for cell, old, new in zip(numbers, before, after[1:]) if old != new]
            self.assertEqual(told, [len(other)] + [value for values in other for value in values])

    def test_no_such_cell(self):
        for number in WRONG_NUMBERS:
            self.tells([-8], EXAMPLE, suppose(number), suppose(number, 2, [32], [5, 5]))
        self.tells([-8], [], suppose(1))
        self.tells([-8], [*EXAMPLE, drop(7)], suppose(7))
        self.tells([-8], FULL, suppose(13))

    def test_mark_out_of_range(self):
        self.tells([-4], EXAMPLE, *[suppose(7, mark) for mark in (-1, 2, HUGE, -HUGE)])

    def test_name_out_of_range(self):
        for name in (-1, 32, HUGE, -HUGE):
            self.tells([-5], EXAMPLE, suppose(7, 0, [name]), suppose(7, 0, [], [5, name]))

    def test_name_twice(self):
        self.tells([-6], EXAMPLE, suppose(7, 0, [3, 5, 3]), suppose(7, 0, [], [31, 31]))

    def test_lists_of_forty(self):
        many = [index % 32 for index in range(40)]
        self.tells([-6], EXAMPLE, suppose(7, 0, many, []), suppose(7, 0, [], many), suppose(7, 0, many, many))
        self.tells([-5], EXAMPLE, suppose(7, 0, many, list(range(40))), suppose(7, 0, [HUGE] * 40, many))

    def test_first_fitting_refusal_is_answered(self):
        for number, mark, outside, twice in itertools.product((9, 1), (1, 2), (False, True), (False, True)):
            fitting = [(-8, number == 1), (-4, mark == 2), (-5, outside), (-6, twice)]
            expected = [refusal for refusal, fits in fitting if fits]
            if expected:
                self.tells(expected[:1], EXAMPLE,
                           suppose(number, mark, [4, 4] if twice else [4], [-1] if outside else []),
                           suppose(number, mark, [32] if outside else [4], [6, 6] if twice else []))

    def test_the_change_can_still_be_made(self):
        self.assertEqual(last(*EXAMPLE, suppose(8, 0, [3]), change(8, 0, [3]), suppose(8, 0, [3])), [0])


if __name__ == "__main__":
    unittest.main()
