"""Point 4: move."""

import unittest

from tests.helper import (EXAMPLE, EXAMPLE_NUMBERS, FULL, HUGE, RefusalCase, add, ask, cells, drop, last, move, order,
                          pictures_around, row)


class MoveTest(RefusalCase):
    def test_every_place_from_every_place(self):
        setup = FULL[:5]
        for number in range(1, 6):
            for place in range(5):
                expected = [other for other in range(1, 6) if other != number]
                expected.insert(place, number)
                self.assertEqual(ask(*setup, move(number, place), cells())[-2:], [[0], [5, *expected]])

    def test_full_notebook(self):
        self.assertEqual(last(*FULL, move(1, 11), cells()), [12, 2, 3, 4, 5, 6, 7, 8, 9, 10, 11, 12, 1])
        self.assertEqual(last(*FULL, move(12, 0), cells()), [12, 12, 1, 2, 3, 4, 5, 6, 7, 8, 9, 10, 11])

    def test_content_comes_along(self):
        before, answer, after = pictures_around(EXAMPLE, EXAMPLE_NUMBERS, move(9, 0))
        self.assertEqual(answer, [0])
        self.assertEqual(after[0], [4, 9, 7, 5, 8])
        self.assertEqual([told[2:] for told in before[1:]], [told[2:] for told in after[1:]])

    def test_running_order_follows_places(self):
        setup = row((1, [], []), (2, [], []), (3, [], []))
        self.assertEqual(last(*setup, move(3, 0), order()), [3, 3, 1, 2])

    def test_only_cell(self):
        self.assertEqual(ask(add(4, 0), move(4, 0), move(4, 1), cells())[1:], [[0], [-3], [1, 4]])

    def test_no_such_cell(self):
        for number in (1, 0, 100, -7, HUGE, -HUGE):
            self.refused(-8, EXAMPLE, EXAMPLE_NUMBERS, move(number, 0))
        self.assertEqual(last(move(1, 0)), [-8])
        self.assertEqual(last(add(1, 0), drop(1), move(1, 0)), [-8])

    def test_place_out_of_range(self):
        for place in (-1, 4, 5, HUGE, -HUGE):
            self.refused(-3, EXAMPLE, EXAMPLE_NUMBERS, move(7, place))
        self.refused(-3, FULL, range(1, 13), move(1, 12))

    def test_missing_cell_before_place(self):
        self.refused(-8, EXAMPLE, EXAMPLE_NUMBERS, move(1, -1))
        self.refused(-8, EXAMPLE, EXAMPLE_NUMBERS, move(HUGE, HUGE))


if __name__ == "__main__":
    unittest.main()
