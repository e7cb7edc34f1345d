"""Point 18: ring."""

import unittest

from tests.helper import EXAMPLE, FULL, LINE, ROUND, QuestionCase, move, net, ring, row


class RingTest(QuestionCase):
    def test_example(self):
        self.tells_each(EXAMPLE, ring, {7: [0], 5: [0], 9: [0], 8: [1, 8]})

    def test_not_on_a_circle(self):
        self.tells([0], FULL, *[ring(number) for number in range(1, 13)])
        self.tells([0], LINE, *[ring(number) for number in range(1, 13)])

    def test_circle_of_twelve_begins_with_the_cell(self):
        self.tells_each(ROUND, ring, {
            number: [12, *range(number, 13), *range(1, number)] for number in range(1, 13)})

    def test_cells_hanging_on_it_from_both_sides(self):
        setup = net((9, [2]), (5, [3]), (4, [7]), (2, [8]), (3, [8]), (7, []), (8, [5, 4]))
        self.tells_each(setup, ring, {
            5: [3, 5, 3, 8], 3: [3, 3, 8, 5], 8: [3, 8, 5, 3], 9: [0], 2: [0], 4: [0], 7: [0]})

    def test_between_two_circles(self):
        setup = net((1, [2]), (2, [1, 3]), (3, [4]), (4, [5]), (5, [4]))
        self.tells_each(setup, ring, {1: [2, 1, 2], 2: [2, 2, 1], 3: [0], 4: [2, 4, 5], 5: [2, 5, 4]})

    def test_itself_before_a_longer_one(self):
        setup = net((1, [2]), (2, [1, 2]), (3, [2, 3]))
        self.tells_each(setup, ring, {1: [2, 1, 2], 2: [1, 2], 3: [1, 3]})

    def test_fewest_steps_before_lower_places(self):
        setup = net((1, [2]), (2, [3]), (3, [1, 4]), (4, [3]))
        self.tells_each(setup, ring, {1: [3, 1, 2, 3], 2: [3, 2, 3, 1], 3: [2, 3, 4], 4: [2, 4, 3]})

    def test_lower_place_where_they_first_differ(self):
        setup = net((30, [9]), (20, [9]), (9, [20, 30]))
        self.tells([2, 9, 30], setup, ring(9))
        self.tells([2, 9, 20], [*setup, move(20, 0)], ring(9))

    def test_the_first_difference_counts_not_a_later_one(self):
        setup = net((50, [10]), (10, [60, 40]), (40, [70]), (60, [50]), (70, [10]))
        self.tells([3, 10, 40, 70], setup, ring(10))
        self.tells([3, 50, 10, 60], setup, ring(50))

    def test_differing_behind_an_equal_beginning(self):
        setup = net((7, [1]), (5, [1]), (1, [2]), (2, [5, 7]))
        self.tells([3, 1, 2, 7], setup, ring(1))
        self.tells([3, 2, 7, 1], setup, ring(2))

    def test_another_state_does_not_hide_it(self):
        setup = row((1, [1, 9], [2], 1), (2, [2], [1, 30]), (3, [9], []))
        self.tells_each(setup, ring, {1: [2, 1, 2], 2: [2, 2, 1], 3: [0]})

    def test_a_name_without_a_maker_closes_no_circle(self):
        setup = row((1, [1, 2], [1, 2]), (2, [1, 2], [1, 2]))
        self.tells([0], setup, ring(1), ring(2))

    def test_no_such_cell(self):
        self.tells_no_cell(ring)


if __name__ == "__main__":
    unittest.main()
