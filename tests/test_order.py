"""Point 12: order."""

import unittest

from tests.helper import EXAMPLE, FULL, change, last, move, order, row


class OrderTest(unittest.TestCase):
    def test_example(self):
        self.assertEqual(last(*EXAMPLE, order()), [2, 5, 7])

    def test_empty_notebook(self):
        self.assertEqual(last(order()), [0])

    def test_no_clear_cell(self):
        self.assertEqual(last(*row((1, [], [], 1), (2, [0], [0])), order()), [0])

    def test_unjoined_cells_in_order_of_place(self):
        self.assertEqual(last(*FULL, order()), [12, *range(1, 13)])
        self.assertEqual(last(*FULL[:3], move(3, 0), order()), [3, 3, 1, 2])

    def test_reader_waits_for_its_maker(self):
        setup = row(*[(place + 1, [place], [place + 1] if place < 11 else []) for place in range(12)])
        self.assertEqual(last(*setup, order()), [12, *range(12, 0, -1)])

    def test_lowest_place_is_taken_again_after_each(self):
        setup = row((1, [], [2]), (2, [], []), (3, [2], []), (4, [], []))
        self.assertEqual(last(*setup, order()), [4, 2, 3, 1, 4])

    def test_waits_for_all_above(self):
        setup = row((4, [], [1, 2]), (1, [1], []), (3, [], [2]), (2, [2], []))
        self.assertEqual(last(*setup, order()), [4, 1, 2, 4, 3])

    def test_sick_and_behind_cells_are_left_out(self):
        setup = row((1, [1], [], 1), (2, [2], [1]), (3, [3], []), (4, [], [3]), (5, [], [2]), (6, [], [9]))
        self.assertEqual(last(*setup, order()), [2, 3, 4])

    def test_follows_changes(self):
        self.assertEqual(last(*EXAMPLE, change(8, 0, [3]), order()), [4, 5, 7, 8, 9])
        self.assertEqual(last(*EXAMPLE, change(5, 1, [1]), order()), [0])


if __name__ == "__main__":
    unittest.main()
