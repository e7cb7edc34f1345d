"""Point 13: waves."""

import unittest

from tests.helper import EXAMPLE, FULL, HUGE, LINE, ROUND, QuestionCase, ask, change, net, order, row, waves

WIDTHS = range(1, 13)


class WavesTest(QuestionCase):
    def test_example(self):
        self.tells([2, 1, 5, 1, 7], EXAMPLE, *[waves(width) for width in WIDTHS])

    def test_empty_notebook(self):
        self.tells([0], [], *[waves(width) for width in WIDTHS])

    def test_no_clear_cell(self):
        self.tells([0], row((1, [], [], 1), (2, [0], [0]), (3, [], [0])), waves(1), waves(12))
        self.tells([0], ROUND, waves(1), waves(12))

    def test_twelve_unjoined_cells(self):
        self.tells([1, 12, *range(1, 13)], FULL, waves(12))
        self.tells([2, 11, *range(1, 12), 1, 12], FULL, waves(11))
        self.tells([3, 5, 1, 2, 3, 4, 5, 5, 6, 7, 8, 9, 10, 2, 11, 12], FULL, waves(5))
        self.tells([12] + [value for number in range(1, 13) for value in (1, number)], FULL, waves(1))

    def test_chain_of_twelve(self):
        self.tells([12] + [value for number in range(12, 0, -1) for value in (1, number)], LINE,
                   waves(1), waves(2), waves(12))

    def test_width_out_of_range(self):
        for setup in ([], EXAMPLE, FULL):
            self.tells([-10], setup, waves(0), waves(13), waves(-1), waves(HUGE), waves(-HUGE))

    def test_all_above_stand_in_rounds_before(self):
        # A cell that is ready only through this very round waits for the next one.
        setup = net((10, []), (20, [10]), (30, [20]), (40, []))
        self.tells([3, 2, 10, 40, 1, 20, 1, 30], setup, waves(2), waves(12))

    def test_newly_ready_cells_of_lower_place_come_before_waiting_ones(self):
        setup = net((1, [3]), (2, []), (3, []), (4, []), (5, []))
        self.tells([3, 2, 2, 3, 2, 1, 4, 1, 5], setup, waves(2))
        self.tells([2, 3, 2, 3, 4, 2, 1, 5], setup, waves(3))
        self.tells([2, 4, 2, 3, 4, 5, 1, 1], setup, waves(4))

    def test_waits_for_all_that_it_reads_from(self):
        setup = net((4, [1, 2]), (1, []), (3, [2]), (2, [1]))
        self.tells([3, 1, 1, 1, 2, 2, 4, 3], setup, waves(2), waves(12))
        self.tells([4, 1, 1, 1, 2, 1, 4, 1, 3], setup, waves(1))

    def test_places_not_numbers(self):
        setup = net((9, []), (1, []), (5, [1]), (3, []))
        self.tells([2, 2, 9, 1, 2, 5, 3], setup, waves(2))
        self.tells([2, 3, 9, 1, 3, 1, 5], setup, waves(3))

    def test_sick_and_behind_cells_are_left_out(self):
        setup = net((1, [], 1), (2, [1]), (3, []), (4, [3]), (5, [2, 3]), (6, []))
        self.tells([2, 2, 3, 6, 1, 4], setup, waves(2), waves(12))

    def test_width_one_is_the_running_order(self):
        setup = net((7, [2, 3]), (6, []), (3, [6]), (2, [6]), (9, [], 1), (8, [7]))
        found = ask(*setup, waves(1), order())[-2:]
        self.assertEqual(found[0], [found[1][0]] + [value for number in found[1][1:] for value in (1, number)])

    def test_follows_changes(self):
        self.tells([3, 2, 5, 8, 1, 7, 1, 9], [*EXAMPLE, change(8, 0, [3])], waves(3))


if __name__ == "__main__":
    unittest.main()
