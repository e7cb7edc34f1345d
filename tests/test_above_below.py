"""Point 15: above and below."""

import unittest

from tests.helper import EXAMPLE, FULL, LINE, ROUND, QuestionCase, above, below, drop, move, net, row

# A circle of 5, 3 and 8; 9 and 2 hang below it, 4 and 7 above it; 6 reads from itself.
HANGING = net((9, [2]), (5, [3]), (4, [7]), (2, [8]), (3, [8]), (7, []), (8, [5, 4]), (6, [6]))


class AboveTest(QuestionCase):
    def test_example(self):
        self.tells_each(EXAMPLE, above, {7: [1, 5], 5: [0], 9: [2, 7, 5], 8: [1, 8]})

    def test_unjoined(self):
        self.tells([0], FULL, *[above(number) for number in range(1, 13)])

    def test_chain_of_twelve(self):
        self.tells_each(LINE, above, {number: [12 - number, *range(number + 1, 13)] for number in range(1, 13)})

    def test_circle_of_twelve(self):
        self.tells([12, *range(1, 13)], ROUND, *[above(number) for number in range(1, 13)])

    def test_circle_with_cells_hanging_on_it(self):
        self.tells_each(HANGING, above, {
            9: [6, 5, 4, 2, 3, 7, 8], 5: [5, 5, 4, 3, 7, 8], 4: [1, 7], 2: [5, 5, 4, 3, 7, 8],
            3: [5, 5, 4, 3, 7, 8], 7: [0], 8: [5, 5, 4, 3, 7, 8], 6: [1, 6]})

    def test_order_of_place_not_of_number_or_of_steps(self):
        setup = net((50, []), (99, [3]), (3, [40]), (40, [7, 50]), (7, []))
        self.tells([4, 50, 3, 40, 7], setup, above(99))
        self.tells([4, 7, 50, 3, 40], [*setup, move(7, 0)], above(99))

    def test_a_name_without_a_maker_joins_no_cells(self):
        setup = row((1, [1], [2, 3]), (2, [2], []), (3, [2], []), (4, [], [3, 1]))
        self.tells([0], setup, above(1), above(2), above(3))
        self.tells([1, 1], setup, above(4))
        self.tells([1, 2], [*setup, drop(3)], above(1))

    def test_own_name_made_by_another_too(self):
        self.tells([0], row((1, [1], [1]), (2, [1], [1])), above(1), above(2))

    def test_no_such_cell(self):
        self.tells_no_cell(above)


class BelowTest(QuestionCase):
    def test_example(self):
        self.tells_each(EXAMPLE, below, {7: [1, 9], 5: [2, 7, 9], 9: [0], 8: [1, 8]})

    def test_unjoined(self):
        self.tells([0], FULL, *[below(number) for number in range(1, 13)])

    def test_chain_of_twelve(self):
        self.tells_each(LINE, below, {number: [number - 1, *range(1, number)] for number in range(1, 13)})

    def test_circle_of_twelve(self):
        self.tells([12, *range(1, 13)], ROUND, *[below(number) for number in range(1, 13)])

    def test_circle_with_cells_hanging_on_it(self):
        self.tells_each(HANGING, below, {
            9: [0], 5: [5, 9, 5, 2, 3, 8], 4: [5, 9, 5, 2, 3, 8], 2: [1, 9], 3: [5, 9, 5, 2, 3, 8],
            7: [6, 9, 5, 4, 2, 3, 8], 8: [5, 9, 5, 2, 3, 8], 6: [1, 6]})

    def test_order_of_place_not_of_number_or_of_steps(self):
        setup = net((50, [40]), (99, []), (3, [99]), (40, [3]), (7, [40]))
        self.tells([4, 50, 3, 40, 7], setup, below(99))
        self.tells([4, 7, 50, 3, 40], [*setup, move(7, 0)], below(99))

    def test_a_name_without_a_maker_joins_no_cells(self):
        setup = row((1, [1], [2, 3]), (2, [2], []), (3, [2], []), (4, [], [3, 1]))
        self.tells([0], setup, below(2), below(3), below(4))
        self.tells([1, 4], setup, below(1))
        self.tells([2, 1, 4], [*setup, drop(3)], below(2))

    def test_no_such_cell(self):
        self.tells_no_cell(below)


if __name__ == "__main__":
    unittest.main()
