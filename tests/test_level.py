"""Point 14: level."""

import unittest

from tests.helper import EXAMPLE, FULL, LINE, ROUND, QuestionCase, change, level, net, row


class LevelTest(QuestionCase):
    def test_example(self):
        self.tells_each(EXAMPLE, level, {7: [1], 5: [0], 9: [-11], 8: [-11]})

    def test_reads_nothing(self):
        self.tells([0], FULL, *[level(number) for number in range(1, 13)])

    def test_chain_of_twelve(self):
        self.tells_each(LINE, level, {number: [12 - number] for number in range(1, 13)})

    def test_the_longest_of_several_chains(self):
        self.tells_each(net((1, [2, 3]), (2, []), (3, [2])), level, {1: [2], 2: [0], 3: [1]})
        self.tells_each(net((1, [2, 3]), (2, [3]), (3, [])), level, {1: [2], 2: [1], 3: [0]})
        setup = net((6, []), (5, [6]), (4, [6, 5]), (3, [6, 4]), (2, [6]), (1, [2, 3, 6]))
        self.tells_each(setup, level, {6: [0], 5: [1], 4: [2], 3: [3], 2: [1], 1: [4]})

    def test_each_reads_all_that_follow(self):
        setup = net(*[(number, range(number + 1, 13)) for number in range(1, 13)])
        self.tells_each(setup, level, {number: [12 - number] for number in range(1, 13)})

    def test_several_names_of_one_cell_are_one_step(self):
        self.tells([1], row((1, [1, 2, 3], []), (2, [], [1, 2, 3])), level(2))

    def test_cells_below_do_not_count(self):
        self.tells([0], net((1, [2]), (2, [3]), (3, [])), level(3))

    def test_each_unclear_state(self):
        setup = row((1, [1], [], 1), (2, [2, 3], []), (3, [3], []), (4, [4], [4]), (5, [5], [31]), (6, [6], [3]),
                    (7, [7], [1]), (8, [8], [7]), (9, [9], []))
        self.tells([-11], setup, *[level(number) for number in range(1, 9)])
        self.tells([0], setup, level(9))
        self.tells([-11], ROUND, *[level(number) for number in range(1, 13)])

    def test_a_sick_cell_below_does_no_harm(self):
        self.tells([1], net((1, [2], 1), (2, [3]), (3, [])), level(2))

    def test_follows_changes(self):
        self.tells([2], [*EXAMPLE, change(8, 0, [3])], level(9))

    def test_no_such_cell(self):
        self.tells_no_cell(level)


if __name__ == "__main__":
    unittest.main()
