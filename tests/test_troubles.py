"""Point 11: troubles."""

import unittest

from tests.helper import EXAMPLE, HUGE, ask, last, row, troubles


class TroublesTest(unittest.TestCase):
    def test_example(self):
        self.assertEqual(ask(*EXAMPLE, troubles(7), troubles(5), troubles(9), troubles(8))[-4:],
                         [[0], [0], [1, 4, 3], [1, 3, 0]])

    def test_all_kinds_in_order(self):
        setup = row(
            (60, [7], [], 1),
            (1, [30, 20, 10], [10, 31, 12, 11, 7, 9, 8, 6, 5], 1),
            (40, [20, 10], [5]),
            (50, [9, 8], []),
            (20, [9, 8, 6], []),
            (30, [5], [30], 0),
        )
        self.assertEqual(last(*setup, troubles(1)), [
            13, 1, 0, 2, 10, 2, 20, 3, 0, 4, 11, 4, 12, 4, 31, 5, 8, 5, 9, 5, 10, 6, 60, 6, 20, 6, 30])

    def test_each_kind_alone(self):
        self.assertEqual(last(*row((1, [], [], 1)), troubles(1)), [1, 1, 0])
        self.assertEqual(last(*row((1, [31], []), (2, [31], [])), troubles(1)), [1, 2, 31])
        self.assertEqual(last(*row((1, [4], [4])), troubles(1)), [1, 3, 0])
        self.assertEqual(last(*row((1, [], [0])), troubles(1)), [1, 4, 0])
        self.assertEqual(last(*row((1, [], [0]), (2, [0], []), (3, [0], [])), troubles(1)), [1, 5, 0])
        self.assertEqual(last(*row((1, [], [0]), (99, [0], [], 1)), troubles(1)), [1, 6, 99])

    def test_not_itself_under_kind_six(self):
        self.assertEqual(last(*row((1, [4], [4], 1)), troubles(1)), [2, 1, 0, 3, 0])

    def test_own_name_made_by_another_too(self):
        self.assertEqual(last(*row((1, [4], [4]), (2, [4], [])), troubles(1)), [2, 2, 4, 5, 4])

    def test_the_others_on_the_circle(self):
        ring = row((1, [1], [2]), (2, [2], [3]), (3, [3], [1]))
        self.assertEqual(ask(*ring, troubles(1), troubles(2), troubles(3))[-3:],
                         [[2, 3, 0, 6, 2], [2, 3, 0, 6, 3], [2, 3, 0, 6, 1]])

    def test_only_cells_read_from_straight_under_kind_six(self):
        setup = row((1, [], [1]), (2, [1], [2]), (3, [2], [3]), (4, [3], [], 1))
        self.assertEqual(ask(*setup, *[troubles(number) for number in (1, 2, 3, 4)])[-4:],
                         [[1, 6, 2], [1, 6, 3], [1, 6, 4], [1, 1, 0]])

    def test_clear_sources_are_not_told(self):
        setup = row((9, [1], []), (8, [2], [], 1), (7, [3], [1, 2]))
        self.assertEqual(last(*setup, troubles(7)), [1, 6, 8])

    def test_a_source_of_several_names_is_told_once(self):
        setup = row((8, [1, 2, 3], [], 1), (7, [], [3, 1, 2]))
        self.assertEqual(last(*setup, troubles(7)), [1, 6, 8])

    def test_sources_in_order_of_place(self):
        setup = row((9, [3], [], 1), (1, [], [1, 2, 3]), (5, [1], [], 1), (2, [2], [], 1))
        self.assertEqual(last(*setup, troubles(1)), [3, 6, 9, 6, 5, 6, 2])

    def test_eleven_sources_in_order_of_place(self):
        makers = [(50 - place, [31 - place], [], 1) for place in range(11)]
        for names in (range(31, 20, -1), range(21, 32), (23, 31)):
            sources = [number for number, made, read, mark in makers if made[0] in names]
            self.assertEqual(last(*row(*makers, (99, [], list(names))), troubles(99)),
                             [len(sources)] + [value for number in sources for value in (6, number)])

    def test_thirty_two_missing_names(self):
        names = list(range(32))
        self.assertEqual(last(*row((1, [], names[::-1])), troubles(1)),
                         [32] + [value for name in names for value in (4, name)])

    def test_thirty_two_names_made_and_read_by_two(self):
        names = list(range(32))
        self.assertEqual(last(*row((1, names, names), (2, names, [])), troubles(1)),
                         [64] + [value for kind in (2, 5) for name in names for value in (kind, name)])

    def test_no_such_cell(self):
        for number in (1, 0, 100, -7, HUGE, -HUGE):
            self.assertEqual(last(*EXAMPLE, troubles(number)), [-8])
        self.assertEqual(last(troubles(1)), [-8])


if __name__ == "__main__":
    unittest.main()
