"""Point 17: way."""

import unittest

from tests.helper import EXAMPLE, FULL, LINE, ROUND, WRONG_NUMBERS, QuestionCase, move, net, row, way


class WayTest(QuestionCase):
    def test_example(self):
        self.tells([3, 9, 7, 5], EXAMPLE, way(9, 5))
        self.tells([2, 9, 7], EXAMPLE, way(9, 7))
        self.tells([2, 7, 5], EXAMPLE, way(7, 5))

    def test_from_a_cell_to_itself(self):
        for number in (7, 5, 9, 8):
            self.tells([1, number], EXAMPLE, way(number, number))
        self.tells([1, 4], ROUND, way(4, 4))

    def test_no_chain(self):
        self.tells([-12], EXAMPLE, way(5, 9), way(5, 7), way(7, 9), way(8, 7), way(9, 8))
        self.tells([-12], FULL, way(1, 12), way(12, 1))

    def test_a_name_without_a_maker_joins_no_cells(self):
        self.tells([-12], row((1, [], [1]), (2, [1], []), (3, [1], [])), way(1, 2), way(1, 3))

    def test_no_such_cell(self):
        for number in WRONG_NUMBERS:
            self.tells([-8], EXAMPLE, way(number, 5), way(5, number), way(number, number))
        self.tells([-8], [], way(1, 1), way(1, 2))

    def test_chain_of_twelve(self):
        self.tells([12, *range(1, 13)], LINE, way(1, 12))
        self.tells([-12], LINE, way(12, 1), way(2, 1))

    def test_along_a_circle(self):
        self.tells([12, 2, *range(3, 13), 1], ROUND, way(2, 1))
        self.tells([2, 12, 1], ROUND, way(12, 1))

    def test_onto_a_circle_and_off_it(self):
        setup = net((1, [4]), (2, [3]), (3, [4]), (4, [2, 5]), (5, [6]), (6, []), (7, [7, 1]))
        self.tells([4, 1, 4, 5, 6], setup, way(1, 6))
        self.tells([5, 2, 3, 4, 5, 6], setup, way(2, 6))
        self.tells([3, 1, 4, 2], setup, way(1, 2))
        self.tells([5, 7, 1, 4, 5, 6], setup, way(7, 6))

    def test_fewest_steps_before_lower_places(self):
        setup = net((1, [2]), (2, [3]), (3, [9]), (8, [1, 7]), (9, []), (7, [9]))
        self.tells([3, 8, 7, 9], setup, way(8, 9))

    def test_lower_place_where_they_first_differ(self):
        setup = net((9, []), (30, [9]), (20, [9]), (10, [20, 30]))
        self.tells([3, 10, 30, 9], setup, way(10, 9))
        self.tells([3, 10, 20, 9], [*setup, move(20, 0)], way(10, 9))

    def test_the_first_difference_counts_not_a_later_one(self):
        setup = net((50, [9]), (10, [40, 60]), (40, [70]), (60, [50]), (70, [9]), (9, []))
        self.tells([4, 10, 40, 70, 9], setup, way(10, 9))

    def test_differing_behind_an_equal_beginning(self):
        setup = net((9, []), (60, [9]), (50, [9]), (10, [20]), (20, [50, 60]), (30, [10]))
        self.tells([5, 30, 10, 20, 60, 9], setup, way(30, 9))

    def test_differing_where_several_chains_join_again(self):
        # Two cells in each of four layers, each reading from both of the next layer.
        setup = net((8, [9]), (1, [5, 2]), (2, [6, 4]), (3, [8, 7]), (4, [7, 8, 3]), (5, [6, 4]), (6, [7, 8, 3]),
                    (7, [9]), (9, []))
        self.tells([5, 1, 2, 4, 8, 9], setup, way(1, 9))
        self.tells([5, 1, 2, 6, 8, 9], [*setup, move(6, 2)], way(1, 9))
        self.tells([5, 1, 5, 4, 7, 9], [*setup, move(5, 0), move(7, 0)], way(1, 9))

    def test_names_and_numbers_do_not_decide(self):
        setup = row((1, [], [0, 31]), (99, [31], [5]), (2, [0], [5]), (50, [5], []))
        self.tells([3, 1, 99, 50], setup, way(1, 50))

    def test_sick_cells_on_the_way(self):
        self.tells([3, 1, 2, 3], net((1, [2]), (2, [3], 1), (3, [3])), way(1, 3))


if __name__ == "__main__":
    unittest.main()
