"""Point 22: touched."""

import unittest

from tests.helper import EXAMPLE, FULL, HUGE, LINE, ROUND, WRONG_NUMBERS, QuestionCase, drop, net, touched


class TouchedTest(QuestionCase):
    def test_example(self):
        self.tells([2, 5, 7], EXAMPLE, touched([5]), touched([5, 7]), touched([7, 5]), touched([9, 8, 5]))
        self.tells([1, 7], EXAMPLE, touched([7]), touched([7, 9]))
        self.tells([0], EXAMPLE, touched([9]), touched([8]), touched([8, 9]))

    def test_empty_list(self):
        for setup in ([], EXAMPLE, FULL, LINE, ROUND):
            self.tells([0], setup, touched([]))

    def test_twelve_unjoined_cells(self):
        self.tells([12, *range(1, 13)], FULL, touched(range(12, 0, -1)))
        self.tells([3, 2, 7, 11], FULL, touched([11, 2, 7]))

    def test_chain_of_twelve(self):
        for number in range(1, 13):
            self.tells([number, *range(number, 0, -1)], LINE, touched([number]), touched([1, number]))

    def test_circle_of_twelve(self):
        self.tells([0], ROUND, touched([1]), touched(range(1, 13)))

    def test_running_order_not_order_of_place_or_of_the_list(self):
        setup = net((1, [4]), (2, []), (3, [2]), (4, [2]), (5, []))
        self.tells([4, 2, 3, 4, 1], setup, touched([2]))
        self.tells([5, 2, 3, 4, 1, 5], setup, touched([5, 1, 2]))
        self.tells([2, 4, 1], setup, touched([4]))
        self.tells([3, 3, 4, 1], setup, touched([4, 3]))

    def test_cells_above_are_not_touched(self):
        self.tells([2, 2, 1], net((1, [2]), (2, [3]), (3, [])), touched([2]))

    def test_unclear_cells_are_left_out(self):
        setup = net((1, []), (2, [1], 1), (3, [2]), (4, [1]), (5, [1, 3]), (6, [6]))
        self.tells([2, 1, 4], setup, touched([1]), touched([1, 2, 3, 4, 5, 6]))
        self.tells([0], setup, touched([2]), touched([3, 5, 6]))
        self.tells([1, 4], setup, touched([2, 4]))

    def test_a_number_several_times(self):
        self.tells([2, 5, 7], EXAMPLE, touched([5, 5]), touched([5, 7, 5, 7, 5]), touched([5] * 40))
        self.tells([0], EXAMPLE, touched([8] * 40))

    def test_forty_numbers(self):
        self.tells([12, *range(1, 13)], FULL, touched([index % 12 + 1 for index in range(40)]))
        self.tells([3, 1, 6, 12], FULL, touched(([12, 6] * 20)[:39] + [1]))

    def test_no_such_cell(self):
        for number in WRONG_NUMBERS:
            self.tells([-8], EXAMPLE, touched([number]), touched([5, number]), touched([number, 5]),
                       touched([5] * 39 + [number]), touched([number] * 40))
        self.tells([-8], [], touched([1]), touched([HUGE]), touched([0] * 40))
        self.tells([-8], [*EXAMPLE, drop(9)], touched([5, 9, 7]))


if __name__ == "__main__":
    unittest.main()
