"""The interface: how calls are written, how answers are given back, and that nothing is changed or kept."""

import unittest

from cellgraph.desk import answers
from tests.helper import (EXAMPLE, HUGE, add, ask, cell, cells, change, drop, makers, move, order, readers, rename,
                          state, tidy, troubles, written)


class Watched(list):
    """A list that does not let itself be changed, not for a while either."""

    def refuse(self, *values, **named):
        raise AssertionError("what is handed in was changed")

    append = extend = insert = pop = remove = clear = reverse = sort = refuse
    __setitem__ = __delitem__ = __iadd__ = __imul__ = refuse


EVERY_CALL = [
    *EXAMPLE, change(9, 1, [6, 4], [3, 2]), drop(8), move(9, 0), tidy(), rename(6, 30), cells(), cell(9), makers(4),
    readers(2), state(9), troubles(9), order(), add(0, 0), rename(1, 2), drop(50),
]


class DeskTest(unittest.TestCase):
    def test_written_out(self):
        calls = [
            0, 7, 0, 0, 1, 2, 1, 1,
            0, 5, 1, 0, 1, 1, 0,
            0, 9, 2, 0, 1, 4, 2, 3, 2,
            0, 8, 3, 0, 1, 0, 1, 0,
            0, 8, 0, 0, 0, 0,
            1, 8, 0, 1, 3, 0,
            2, 8,
            3, 9, 0,
            4,
            5, 4, 6,
            6,
            7, 9,
            8, 6,
            9, 2,
            10, 9,
            11, 9,
            12,
        ]
        self.assertEqual(answers(calls), [
            1, 0,
            1, 0,
            1, 0,
            1, 0,
            1, -2,
            1, 0,
            1, 0,
            1, 0,
            1, 2,
            1, 1,
            4, 3, 5, 7, 9,
            8, 0, 2, 0, 1, 6, 2, 2, 3,
            2, 1, 9,
            2, 1, 9,
            1, 4,
            3, 1, 4, 3,
            3, 2, 5, 7,
        ])

    def test_one_notebook_for_one_list(self):
        self.assertEqual(ask(cells(), add(1, 0), cells(), add(2, 0), cells(), drop(1), cells()),
                         [[0], [0], [1, 1], [0], [2, 2, 1], [0], [1, 2]])

    def test_next_list_begins_with_an_empty_one(self):
        for turn in range(3):
            self.assertEqual(answers([6, 0, 5, 0, 0, 0, 0, 6]), [1, 0, 1, 0, 2, 1, 5], turn)
            self.assertEqual(answers([6]), [1, 0], turn)

    def test_same_answers_each_time(self):
        calls = written(EVERY_CALL)
        self.assertEqual(answers(calls), answers(calls))

    def test_answers_are_a_list_of_its_own(self):
        calls = written(EVERY_CALL)
        first = answers(calls)
        second = answers(calls)
        first.clear()
        self.assertEqual(second, answers(calls))
        self.assertIs(type(second), list)
        self.assertEqual({type(value) for value in second}, {int})

    def test_list_handed_in_is_the_same_afterwards(self):
        calls = written(EVERY_CALL)
        kept = list(calls)
        answers(calls)
        self.assertEqual(calls, kept)

    def test_list_handed_in_is_not_changed_for_a_while(self):
        calls = written(EVERY_CALL)
        self.assertEqual(answers(Watched(calls)), answers(calls))

    def test_refusals_stand_alone(self):
        self.assertEqual(answers([2, 1, 3, 1, 0, 5, 32, 0, 7, 1, 8, 32, 9, 32, 10, 1, 11, 1]), [1, -8] * 2 + [
            1, -5, 1, -8, 1, -5, 1, -5, 1, -8, 1, -8])

    def test_huge_numbers_everywhere(self):
        for huge in (HUGE, -HUGE):
            many = [huge] * 40
            self.assertEqual(ask(
                add(huge, huge, huge, many, many), add(1, 0), add(2, huge, huge, many, many),
                add(2, 0, huge, many, many), add(2, 0, 0, many, many), change(huge, huge, many, many),
                change(1, huge, many, many), change(1, 0, many, many), drop(huge), move(huge, huge), move(1, huge),
                rename(huge, huge), cell(huge), makers(huge), readers(huge), state(huge), troubles(huge), cells(),
            ), [[-1], [0], [-3], [-4], [-5], [-8], [-4], [-5], [-8], [-8], [-3], [-5], [-8], [-5], [-5], [-8], [-8],
                [1, 1]])

    def test_four_hundred_calls(self):
        calls = [call for turn in range(100) for call in (add(99, 0, 1, [turn % 32]), cells(), drop(99), cells())]
        self.assertEqual(ask(*calls), [[0], [1, 99], [0], [0]] * 100)

    def test_longest_list(self):
        call = add(1, 0, 0, [0] * 15, [1] * 15)
        calls = written([call] * 400)
        self.assertEqual(answers(calls), [1, -6] * 400)
        long_calls = written([add(1, 0, 0, list(range(40)), list(range(40)))] * 180)
        self.assertEqual(answers(long_calls), [1, -5] * 180)


if __name__ == "__main__":
    unittest.main()
