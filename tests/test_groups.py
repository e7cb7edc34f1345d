"""Point 21: groups."""

import unittest

from tests.helper import EXAMPLE, FULL, LINE, ROUND, QuestionCase, drop, groups, move, net, row


class GroupsTest(QuestionCase):
    def test_example(self):
        self.tells([2, 3, 7, 5, 9, 1, 8], EXAMPLE, groups())

    def test_empty_notebook(self):
        self.tells([0], [], groups())

    def test_each_cell_alone(self):
        self.tells([1, 1, 5], row((5, [], [])), groups())
        self.tells([12] + [value for number in range(1, 13) for value in (1, number)], FULL, groups())

    def test_twelve_together(self):
        self.tells([1, 12, *range(1, 13)], LINE, groups())
        self.tells([1, 12, *range(1, 13)], ROUND, groups())

    def test_chain_in_two(self):
        self.tells([2, 4, 1, 2, 3, 4, 7, 6, 7, 8, 9, 10, 11, 12], [*LINE, drop(5)], groups())

    def test_a_cell_that_reads_from_itself(self):
        self.tells([2, 1, 4, 1, 3], net((4, [4]), (3, [])), groups())
        self.tells([1, 2, 4, 3], net((4, [4]), (3, [3, 4])), groups())

    def test_two_readers_of_one_cell(self):
        self.tells([2, 3, 1, 2, 4, 1, 3], net((1, [4]), (2, [4]), (3, []), (4, [])), groups())

    def test_one_reader_of_two_cells(self):
        self.tells([2, 3, 1, 2, 4, 1, 3], net((1, []), (2, []), (3, []), (4, [1, 2])), groups())

    def test_over_many_others_up_and_down(self):
        # Cells with odd numbers read from both of their neighbours.
        setup = net(*[(number, [number - 1, number + 1] if number % 2 else []) for number in range(2, 13)])
        self.tells([1, 11, *range(2, 13)], setup, groups())

    def test_order_of_the_first_places(self):
        setup = net((9, []), (5, [1]), (8, [9]), (4, []), (1, []), (7, [4]), (2, [8]))
        self.tells([3, 3, 9, 8, 2, 2, 5, 1, 2, 4, 7], setup, groups())
        self.tells([3, 2, 7, 4, 3, 9, 8, 2, 2, 5, 1], [*setup, move(7, 0)], groups())

    def test_a_name_without_a_maker_joins_no_cells(self):
        missing = row((1, [], [5]), (2, [], [5]), (3, [], [5]))
        self.tells([3, 1, 1, 1, 2, 1, 3], missing, groups())
        double = row((1, [5], []), (2, [5], []), (3, [], [5]), (4, [], [5]))
        self.tells([4, 1, 1, 1, 2, 1, 3, 1, 4], double, groups())
        self.tells([1, 3, 2, 3, 4], [*double, drop(1)], groups())

    def test_sick_cells_hang_together_too(self):
        setup = row((1, [1], [2], 1), (2, [2, 9], [30]), (3, [9], []), (4, [4], [4, 1]))
        self.tells([2, 3, 1, 2, 4, 1, 3], setup, groups())

    def test_circles_with_cells_hanging_on_them(self):
        setup = net((9, [5]), (1, [2]), (5, [3]), (2, [1]), (3, [5, 8]), (8, []), (6, [1]))
        self.tells([2, 4, 9, 5, 3, 8, 3, 1, 2, 6], setup, groups())


if __name__ == "__main__":
    unittest.main()
