"""Point 10: state."""

import unittest

from tests.helper import EXAMPLE, EXAMPLE_NUMBERS, HUGE, RefusalCase, add, ask, change, drop, last, row, state


class StateTest(RefusalCase):
    def states(self, *contents):
        setup = row(*contents)
        found = ask(*setup, *[state(content[0]) for content in contents])[len(setup):]
        self.assertEqual([len(told) for told in found], [1] * len(contents))
        return [told[0] for told in found]

    def test_example(self):
        self.assertEqual(ask(*EXAMPLE, state(7), state(5), state(9), state(8))[-4:], [[0], [0], [4], [3]])

    def test_each_sickness(self):
        self.assertEqual(self.states((1, [], [], 1)), [1])
        self.assertEqual(self.states((1, [0], []), (2, [0], [])), [2, 2])
        self.assertEqual(self.states((1, [0], [0])), [3])
        self.assertEqual(self.states((1, [], [0])), [4])
        self.assertEqual(self.states((1, [], [0]), (2, [0], []), (3, [0], [])), [5, 2, 2])

    def test_clear(self):
        self.assertEqual(self.states((1, [], [])), [0])
        self.assertEqual(self.states((1, [0, 31], []), (2, [], [31])), [0, 0])

    def test_the_first_that_fits(self):
        others = [(2, [0], []), (3, [9], []), (4, [9], [])]
        worst = (1, [0, 1], [1, 8, 9], 1)
        self.assertEqual(self.states(worst, *others)[0], 1)
        self.assertEqual(self.states((1, [0, 1], [1, 8, 9]), *others)[0], 2)
        self.assertEqual(self.states((1, [1], [1, 8, 9]), *others)[0], 3)
        self.assertEqual(self.states((1, [1], [8, 9]), *others)[0], 4)
        self.assertEqual(self.states((1, [1], [9]), *others)[0], 5)
        self.assertEqual(self.states((1, [1], [6]), (5, [6], [], 1), *others)[0], 6)
        self.assertEqual(self.states((1, [1], []), *others)[0], 0)

    def test_own_sickness_before_behind(self):
        self.assertEqual(self.states((1, [0], [], 1), (2, [1], [0, 9])), [1, 4])

    def test_behind_over_several_steps(self):
        self.assertEqual(self.states((1, [], [1]), (2, [1], [2]), (3, [2], [3]), (4, [3], [], 1)), [6, 6, 6, 1])
        self.assertEqual(self.states((1, [0], [0]), (2, [1], [0]), (3, [], [1]), (4, [2], [])), [3, 6, 6, 0])

    def test_behind_each_kind_of_sickness(self):
        self.assertEqual(self.states((1, [0, 5], []), (2, [5], []), (3, [], [0])), [2, 2, 6])
        self.assertEqual(self.states((1, [0], [9]), (3, [], [0])), [4, 6])
        self.assertEqual(self.states((1, [0], [5]), (2, [5], []), (4, [5], []), (3, [], [0])), [5, 2, 2, 6])

    def test_being_read_by_a_sick_cell_does_no_harm(self):
        self.assertEqual(self.states((1, [0], []), (2, [], [0], 1)), [0, 1])

    def test_circles_of_several_cells(self):
        self.assertEqual(self.states((1, [1], [2]), (2, [2], [1])), [3, 3])
        ring = [(place + 1, [place], [(place + 1) % 12]) for place in range(12)]
        self.assertEqual(self.states(*ring), [3] * 12)

    def test_two_circles_and_a_cell_between(self):
        self.assertEqual(
            self.states((1, [1], [2]), (2, [2], [1, 3]), (3, [3], [4]), (4, [4], [5]), (5, [5], [4]), (6, [], [1])),
            [3, 3, 6, 3, 3, 6])

    def test_a_name_made_by_several_joins_no_cells(self):
        self.assertEqual(self.states((1, [1], [1]), (2, [1], [])), [2, 2])
        self.assertEqual(self.states((1, [1], [2]), (2, [2], [1]), (3, [2], [])), [5, 2, 2])
        self.assertEqual(self.states((1, [1, 3], [2]), (2, [2], [1]), (3, [3], [])), [2, 3, 2])

    def test_a_broken_cell_still_makes_its_names(self):
        self.assertEqual(self.states((1, [0], [], 1), (2, [], [0])), [1, 6])
        self.assertEqual(self.states((1, [0], [], 1), (2, [0], [])), [1, 2])
        self.assertEqual(self.states((1, [0], [1], 1), (2, [1], [0])), [1, 3])

    def test_states_follow_changes(self):
        self.assertEqual(ask(add(1, 0, 0, [], [5]), state(1), add(2, 1, 0, [5]), state(1), add(3, 2, 0, [5]), state(1),
                             drop(2), state(1), change(3, 1, [5]), state(1))[1::2], [[4], [0], [5], [0], [6]])

    def test_no_such_cell(self):
        for number in (1, 0, 100, -7, HUGE, -HUGE):
            self.refused(-8, EXAMPLE, EXAMPLE_NUMBERS, state(number))
        self.assertEqual(last(state(1)), [-8])


if __name__ == "__main__":
    unittest.main()
