"""Point 16: circle."""

import unittest

from tests.helper import EXAMPLE, FULL, LINE, ROUND, QuestionCase, circle, drop, net, row


class CircleTest(QuestionCase):
    def test_example(self):
        self.tells_each(EXAMPLE, circle, {7: [0], 5: [0], 9: [0], 8: [1, 8]})

    def test_no_circle(self):
        self.tells([0], FULL, *[circle(number) for number in range(1, 13)])
        self.tells([0], LINE, *[circle(number) for number in range(1, 13)])

    def test_circle_of_twelve(self):
        self.tells([12, *range(1, 13)], ROUND, *[circle(number) for number in range(1, 13)])
        self.tells([0], [*ROUND, drop(5)], circle(1), circle(4), circle(6), circle(12))

    def test_cells_hanging_on_it_from_both_sides(self):
        setup = net((9, [2]), (5, [3]), (4, [7]), (2, [8]), (3, [8]), (7, []), (8, [5, 4]))
        self.tells([3, 5, 3, 8], setup, circle(5), circle(3), circle(8))
        self.tells([0], setup, circle(9), circle(2), circle(4), circle(7))

    def test_two_circles_and_a_cell_between(self):
        setup = net((1, [2]), (2, [1, 3]), (3, [4]), (4, [5]), (5, [4]))
        self.tells([2, 1, 2], setup, circle(1), circle(2))
        self.tells([0], setup, circle(3))
        self.tells([2, 4, 5], setup, circle(4), circle(5))

    def test_circles_that_share_a_cell_are_told_as_one(self):
        setup = net((6, [4]), (2, [4]), (4, [2, 6]))
        self.tells([3, 6, 2, 4], setup, circle(2), circle(4), circle(6))

    def test_reading_from_itself_beside_a_circle(self):
        setup = net((1, [1, 2]), (2, [3]), (3, [1]), (4, [4, 1]))
        self.tells([3, 1, 2, 3], setup, circle(1), circle(2), circle(3))
        self.tells([1, 4], setup, circle(4))

    def test_another_state_does_not_hide_it(self):
        setup = row((1, [1, 9], [2], 1), (2, [2], [1, 30]), (3, [9], []))
        self.tells([2, 1, 2], setup, circle(1), circle(2))

    def test_a_name_without_a_maker_closes_no_circle(self):
        setup = row((1, [1], [2]), (2, [2], [1]), (3, [2], []))
        self.tells([0], setup, circle(1), circle(2), circle(3))

    def test_no_such_cell(self):
        self.tells_no_cell(circle)


if __name__ == "__main__":
    unittest.main()
