"""Point 19: why."""

import unittest

from tests.helper import EXAMPLE, FULL, LINE, ROUND, QuestionCase, add, change, move, net, row, why


class WhyTest(QuestionCase):
    def test_example(self):
        self.tells_each(EXAMPLE, why, {7: [0], 5: [0], 9: [1, 9], 8: [1, 8]})

    def test_clear_cells(self):
        self.tells([0], FULL, *[why(number) for number in range(1, 13)])
        self.tells([0], LINE, *[why(number) for number in range(1, 13)])

    def test_each_sickness_is_told_alone(self):
        setup = row((1, [1], [], 1), (2, [2, 3], []), (3, [3], []), (4, [4], [4]), (5, [5], [31]), (6, [6], [3]))
        self.tells_each(setup, why, {number: [1, number] for number in range(1, 7)})
        self.tells_each(ROUND, why, {number: [1, number] for number in range(1, 13)})

    def test_behind_each_sickness(self):
        sick = row((1, [1], [], 1), (2, [2, 3], []), (3, [3], []), (4, [4], [4]), (5, [5], [31]), (6, [6], [3]))
        for number in (1, 2, 4, 5, 6):
            setup = [*sick, add(9, 0, 0, [], [number])]
            self.tells([2, 9, number], setup, why(9))

    def test_sick_itself_though_it_is_behind_too(self):
        self.tells_each(net((1, [2], 1), (2, [3]), (3, [], 1)), why, {1: [1, 1], 2: [2, 2, 3], 3: [1, 3]})

    def test_chain_of_twelve(self):
        setup = [*LINE, change(12, 1, [11])]
        self.tells_each(setup, why, {number: [13 - number, *range(number, 13)] for number in range(1, 13)})

    def test_the_chain_ends_with_the_first_sick_cell(self):
        setup = net((1, [2]), (2, [3]), (3, [4], 1), (4, [5]), (5, [], 1))
        self.tells_each(setup, why, {1: [3, 1, 2, 3], 2: [2, 2, 3], 3: [1, 3], 4: [2, 4, 5], 5: [1, 5]})

    def test_fewest_steps_before_lower_places(self):
        setup = net((1, [2]), (2, [], 1), (3, [1, 4]), (4, [], 1))
        self.tells([2, 3, 4], setup, why(3))
        self.tells([2, 1, 2], setup, why(1))

    def test_several_sick_cells_equally_near(self):
        setup = net((30, [], 1), (9, [20, 30]), (20, [], 1))
        self.tells([2, 9, 30], setup, why(9))
        self.tells([2, 9, 20], [*setup, move(20, 0)], why(9))

    def test_the_first_difference_counts_not_the_sick_cells_place(self):
        setup = net((50, [], 1), (10, [60, 40]), (40, [70]), (60, [50]), (70, [], 1))
        self.tells([3, 10, 40, 70], setup, why(10))

    def test_several_chains_to_one_sick_cell(self):
        setup = net((9, [], 1), (30, [9]), (20, [9]), (10, [20, 30]))
        self.tells([3, 10, 30, 9], setup, why(10))
        self.tells([3, 10, 20, 9], [*setup, move(20, 0)], why(10))

    def test_behind_a_circle(self):
        setup = net((1, [2]), (2, [4]), (3, [4]), (4, [3]), (5, [3, 1]), (6, []), (7, [6]))
        self.tells_each(setup, why, {
            1: [3, 1, 2, 4], 2: [2, 2, 4], 3: [1, 3], 4: [1, 4], 5: [2, 5, 3], 6: [0], 7: [0]})

    def test_a_sick_cell_below_does_no_harm(self):
        self.tells([0], net((1, [2], 1), (2, [3]), (3, [])), why(2), why(3))

    def test_no_such_cell(self):
        self.tells_no_cell(why)


if __name__ == "__main__":
    unittest.main()
