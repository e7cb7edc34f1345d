"""Point 5: tidy."""

import unittest

from tests.helper import EXAMPLE, EXAMPLE_NUMBERS, FULL, add, ask, cells, last, order, pictures_around, row, tidy


class TidyTest(unittest.TestCase):
    def test_example(self):
        self.assertEqual(ask(*EXAMPLE, tidy(), cells())[-2:], [[2], [4, 5, 7, 9, 8]])

    def test_content_comes_along(self):
        before, answer, after = pictures_around(EXAMPLE, EXAMPLE_NUMBERS, tidy())
        self.assertEqual(answer, [2])
        self.assertEqual([told[2:] for told in before[1:]], [told[2:] for told in after[1:]])

    def test_again_nothing_moves(self):
        self.assertEqual(ask(*EXAMPLE, tidy(), tidy(), cells())[-2:], [[0], [4, 5, 7, 9, 8]])

    def test_clear_cells_first_and_the_others_in_their_order(self):
        setup = row((10, [], [], 1), (20, [], [30]), (3, [], []), (40, [5], [5]), (2, [], []))
        self.assertEqual(ask(*setup, tidy(), cells())[-2:], [[5], [5, 3, 2, 10, 20, 40]])

    def test_behind_cells_are_others(self):
        setup = row((4, [], [0]), (3, [0], [], 1), (2, [], []))
        self.assertEqual(ask(*setup, tidy(), cells())[-2:], [[3], [3, 2, 4, 3]])

    def test_running_order_not_order_of_place(self):
        setup = row(*[(place + 1, [place], [place + 1] if place < 11 else []) for place in range(12)])
        self.assertEqual(ask(*setup, tidy(), cells())[-2:], [[12], [12, *range(12, 0, -1)]])

    def test_order_stays(self):
        found = ask(*EXAMPLE, order(), tidy(), order())
        self.assertEqual(found[-3], found[-1])

    def test_without_moves(self):
        self.assertEqual(ask(tidy(), cells()), [[0], [0]])
        self.assertEqual(ask(add(1, 0), tidy()), [[0], [0]])
        self.assertEqual(last(*FULL, tidy()), [0])
        self.assertEqual(last(*row((2, [], [], 1), (1, [], [], 1)), tidy()), [0])


if __name__ == "__main__":
    unittest.main()
