"""Point 20: needed."""

import unittest

from tests.helper import EXAMPLE, FULL, LINE, ROUND, QuestionCase, change, move, needed, net, row


class NeededTest(QuestionCase):
    def test_example(self):
        self.tells_each(EXAMPLE, needed, {7: [1, 5], 5: [0], 9: [-11], 8: [-11]})

    def test_reads_nothing(self):
        self.tells([0], FULL, *[needed(number) for number in range(1, 13)])

    def test_chain_of_twelve(self):
        self.tells_each(LINE, needed, {number: [1, number + 1] for number in range(1, 12)})
        self.tells([0], LINE, needed(12))

    def test_a_source_that_is_above_another(self):
        self.tells([1, 2], net((1, [2, 3]), (2, [3]), (3, [])), needed(1))
        self.tells([1, 3], net((1, [2, 3]), (2, []), (3, [2])), needed(1))

    def test_a_source_that_is_above_another_over_several_steps(self):
        setup = net((5, []), (4, [5]), (3, [4]), (2, [3]), (1, [2, 5]))
        self.tells([1, 2], setup, needed(1))
        self.tells([1, 2], [*setup, move(2, 0)], needed(1))

    def test_only_above_a_cell_that_is_no_source(self):
        # 3 is above 2 and 4, but 1 reads from neither of these.
        self.tells([1, 3], net((1, [3]), (2, [3]), (3, []), (4, [3])), needed(1))
        self.tells([2, 3, 5], net((1, [3, 5]), (2, [3, 5, 1]), (3, []), (4, [3, 5]), (5, [])), needed(1))

    def test_each_reads_all_that_follow(self):
        setup = net(*[(number, range(number + 1, 13)) for number in range(1, 13)])
        self.tells_each(setup, needed, {number: [1, number + 1] for number in range(1, 12)})

    def test_eleven_in_order_of_place(self):
        numbers = [90 - 7 * place for place in range(12)]
        setup = net(*[(number, []) for number in numbers[:6]], (99, numbers[::-1][1:]),
                    *[(number, []) for number in numbers[6:11]])
        self.tells([11, *numbers[:11]], setup, needed(99))

    def test_several_names_of_one_cell(self):
        self.tells([1, 1], row((1, [1, 2, 3], []), (2, [], [1, 2, 3])), needed(2))

    def test_some_left_out_and_some_not(self):
        setup = net((8, [6, 5, 4, 3]), (6, []), (5, [7]), (4, [3]), (3, []), (7, [6]))
        self.tells([2, 5, 4], setup, needed(8))

    def test_each_unclear_state(self):
        setup = row((1, [1], [], 1), (2, [2, 3], []), (3, [3], []), (4, [4], [4]), (5, [5], [31]), (6, [6], [3]),
                    (7, [7], [1]), (8, [8], [7]), (9, [9], []))
        self.tells([-11], setup, *[needed(number) for number in range(1, 9)])
        self.tells([0], setup, needed(9))
        self.tells([-11], ROUND, *[needed(number) for number in range(1, 13)])

    def test_follows_changes(self):
        self.tells([2, 7, 8], [*EXAMPLE, change(8, 0, [3])], needed(9))

    def test_no_such_cell(self):
        self.tells_no_cell(needed)


if __name__ == "__main__":
    unittest.main()
