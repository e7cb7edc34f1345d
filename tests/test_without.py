"""Point 24: without."""

import unittest

from tests.helper import (EXAMPLE, FULL, FULL_NUMBERS, LINE, ROUND, QuestionCase, ask, drop, last, net, row, state,
                          without)


class WithoutTest(QuestionCase):
    def test_example(self):
        self.tells_each(EXAMPLE, without, {7: [0], 5: [1, 7, 0, 4], 9: [0], 8: [0]})

    def test_nothing_would_be_other(self):
        self.tells([0], FULL, *[without(number) for number in FULL_NUMBERS])
        self.tells([0], row((1, [], [], 1)), without(1))

    def test_states_are_spoiled(self):
        self.tells([2, 2, 0, 4, 3, 0, 6], net((1, []), (2, [1]), (3, [2])), without(1))
        self.tells([11, *[value for number in range(1, 11) for value in (number, 0, 6)], 11, 0, 4], LINE, without(12))

    def test_states_are_mended(self):
        setup = row((1, [1], []), (2, [1], []), (3, [3], [1]), (4, [], [3]))
        self.tells([3, 2, 2, 0, 3, 5, 0, 4, 6, 0], setup, without(1))
        self.tells([3, 1, 2, 0, 3, 5, 0, 4, 6, 0], setup, without(2))

    def test_one_trouble_for_another(self):
        self.tells([1, 2, 6, 4], net((1, [], 1), (2, [1]), (3, [2])), without(1))
        self.tells([11, *[value for number in range(1, 11) for value in (number, 3, 6)], 11, 3, 4], ROUND, without(12))
        self.tells([11, 1, 3, 6, 2, 3, 6, 3, 3, 6, 4, 3, 4, *[value for n in range(6, 13) for value in (n, 3, 6)]],
                   ROUND, without(5))

    def test_a_name_made_by_three(self):
        setup = row((1, [1], []), (2, [1], []), (3, [1], []), (4, [], [1]))
        self.tells([0], setup, without(1), without(2), without(3), without(4))
        self.tells([2, 2, 2, 0, 4, 5, 0], [*setup, drop(3)], without(1))

    def test_order_of_place(self):
        setup = net((50, [9]), (3, []), (9, []), (4, [50]), (99, [9]))
        self.tells([3, 50, 0, 4, 4, 0, 6, 99, 0, 4], setup, without(9))

    def test_the_cell_itself_is_not_told(self):
        self.tells([0], row((1, [], [], 1), (2, [], [])), without(1))
        self.tells([0], EXAMPLE, without(8))
        self.tells([1, 1, 2, 0], row((1, [5], []), (2, [5], [])), without(2))

    def test_tells_what_the_drop_then_does(self):
        setup = row((1, [0], [1]), (2, [1, 7], [2, 4]), (3, [2], [3]), (4, [3], [2, 5]), (5, [4], []),
                    (6, [5, 7], [], 1), (7, [], [0, 4]), (8, [8], [7, 8]))
        for number in range(1, 9):
            others = [other for other in range(1, 9) if other != number]
            looks = [state(other) for other in others]
            before = ask(*setup, *looks)[-7:]
            told, *after = ask(*setup, without(number), drop(number), *looks)[-9:]
            other = [(cell, old[0], new[0]) for cell, old, new in zip(others, before, after[1:]) if old != new]
            self.assertEqual(told, [len(other)] + [value for values in other for value in values])

    def test_the_drop_can_still_be_made(self):
        self.assertEqual(last(*EXAMPLE, without(5), drop(5), without(5)), [-8])

    def test_no_such_cell(self):
        self.tells_no_cell(without)


if __name__ == "__main__":
    unittest.main()
