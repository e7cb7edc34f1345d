"""The interface: how calls are written, how answers are given back, and that nothing is changed or kept."""

import unittest

from cellgraph.desk import answers
from tests.helper import (EXAMPLE, HUGE, above, add, ask, below, cell, cells, change, circle, drop, groups, level,
                          makers, move, needed, order, readers, rename, ring, state, suppose, tidy, touched, troubles,
                          waves, way, why, without, written)


class Watched(list):
    """A list that does not let itself be changed, not for a while either."""

    def refuse(self, *values, **named):
        raise AssertionError("what is handed in was changed")

    append = extend = insert = pop = remove = clear = reverse = sort = refuse
    __setitem__ = __delitem__ = __iadd__ = __imul__ = refuse


FIRST_CALLS = [
    *EXAMPLE, change(9, 1, [6, 4], [3, 2]), drop(8), move(9, 0), tidy(), rename(6, 30), cells(), cell(9), makers(4),
    readers(2), state(9), troubles(9), order(), add(0, 0), rename(1, 2), drop(50),
]
# The calls of points 13 to 24: none of them changes the notebook.
LATER_CALLS = [
    waves(2), level(7), above(9), below(5), circle(8), way(9, 5), ring(8), why(9), needed(7), groups(),
    touched([5, 9, 5]), suppose(5, 1, [30, 1], [0]), without(5), waves(0), level(9), way(5, 9), touched([5, 1]),
    suppose(5, 0, [3, 3], []), suppose(5, 0, [9], [32]), suppose(5, 2, [], []), without(1),
]
EVERY_CALL = [*EXAMPLE, *LATER_CALLS, *FIRST_CALLS[4:], *LATER_CALLS]


class DeskTest(unittest.TestCase):
    def test_written_out(self):
        calls = [
            0, 7, 0, 0, 1, 2, 1, 1,
            0, 5, 1, 0, 1, 1, 0,
            0, 9, 2, 0, 1, 4, 2, 3, 2,
            0, 8, 3, 0, 1, 0, 1, 0,
            0, 8, 0, 0, 0, 0,
            1, 8, 0, 1, 3, 0,
            2, 8,
            3, 9, 0,
            4,
            5, 4, 6,
            6,
            7, 9,
            8, 6,
            9, 2,
            10, 9,
            11, 9,
            12,
        ]
        self.assertEqual(answers(calls), [
            1, 0,
            1, 0,
            1, 0,
            1, 0,
            1, -2,
            1, 0,
            1, 0,
            1, 0,
            1, 2,
            1, 1,
            4, 3, 5, 7, 9,
            8, 0, 2, 0, 1, 6, 2, 2, 3,
            2, 1, 9,
            2, 1, 9,
            1, 4,
            3, 1, 4, 3,
            3, 2, 5, 7,
        ])

    def test_later_calls_written_out(self):
        calls = [
            0, 7, 0, 0, 1, 2, 1, 1,
            0, 5, 1, 0, 1, 1, 0,
            0, 9, 2, 0, 1, 4, 2, 3, 2,
            0, 8, 3, 0, 1, 0, 1, 0,
            13, 4,
            14, 7,
            15, 9,
            16, 5,
            17, 8,
            18, 9, 5,
            19, 8,
            20, 9,
            21, 7,
            22,
            23, 3, 5, 8, 5,
            24, 8, 0, 1, 3, 0,
            25, 5,
            23, 0,
            13, 13,
            14, 8,
            18, 5, 9,
            6,
        ]
        self.assertEqual(answers(calls), [
            1, 0,
            1, 0,
            1, 0,
            1, 0,
            5, 2, 1, 5, 1, 7,
            1, 1,
            3, 2, 7, 5,
            3, 2, 7, 9,
            2, 1, 8,
            4, 3, 9, 7, 5,
            2, 1, 8,
            2, 1, 9,
            2, 1, 5,
            7, 2, 3, 7, 5, 9, 1, 8,
            3, 2, 5, 7,
            7, 2, 9, 4, 0, 8, 3, 0,
            4, 1, 7, 0, 4,
            1, 0,
            1, -10,
            1, -11,
            1, -12,
            5, 4, 7, 5, 9, 8,
        ])

    def test_first_calls_answer_as_before_among_the_later_ones(self):
        alone = ask(*FIRST_CALLS)
        # Half of them at a time, so that the calls of one list stay below 400.
        for later in (LATER_CALLS[::2], LATER_CALLS[1::2]):
            mixed = [call for first in FIRST_CALLS for call in (first, *later)]
            self.assertEqual(ask(*mixed)[::len(later) + 1], alone)
        self.assertEqual(ask(*EXAMPLE, *LATER_CALLS, *FIRST_CALLS[4:])[4 + len(LATER_CALLS):], alone[4:])

    def test_one_notebook_for_one_list(self):
        self.assertEqual(ask(cells(), add(1, 0), cells(), add(2, 0), cells(), drop(1), cells()),
                         [[0], [0], [1, 1], [0], [2, 2, 1], [0], [1, 2]])

    def test_next_list_begins_with_an_empty_one(self):
        for turn in range(3):
            self.assertEqual(answers([6, 0, 5, 0, 0, 0, 0, 6]), [1, 0, 1, 0, 2, 1, 5], turn)
            self.assertEqual(answers([6]), [1, 0], turn)

    def test_same_answers_each_time(self):
        calls = written(EVERY_CALL)
        self.assertEqual(answers(calls), answers(calls))

    def test_answers_are_a_list_of_its_own(self):
        calls = written(EVERY_CALL)
        first = answers(calls)
        second = answers(calls)
        first.clear()
        self.assertEqual(second, answers(calls))
        self.assertIs(type(second), list)
        self.assertEqual({type(value) for value in second}, {int})

    def test_list_handed_in_is_the_same_afterwards(self):
        calls = written(EVERY_CALL)
        kept = list(calls)
        answers(calls)
        self.assertEqual(calls, kept)

    def test_list_handed_in_is_not_changed_for_a_while(self):
        calls = written(EVERY_CALL)
        self.assertEqual(answers(Watched(calls)), answers(calls))

    def test_refusals_stand_alone(self):
        self.assertEqual(answers([2, 1, 3, 1, 0, 5, 32, 0, 7, 1, 8, 32, 9, 32, 10, 1, 11, 1]), [1, -8] * 2 + [
            1, -5, 1, -8, 1, -5, 1, -5, 1, -8, 1, -8])
        self.assertEqual(
            answers([13, 0, 14, 1, 15, 1, 16, 1, 17, 1, 18, 1, 2, 19, 1, 20, 1, 21, 1, 23, 1, 1,
                     24, 1, 0, 0, 0, 25, 1]),
            [1, -10] + [1, -8] * 11)

    def test_huge_numbers_everywhere(self):
        for huge in (HUGE, -HUGE):
            many = [huge] * 40
            self.assertEqual(ask(
                add(huge, huge, huge, many, many), add(1, 0), add(2, huge, huge, many, many),
                add(2, 0, huge, many, many), add(2, 0, 0, many, many), change(huge, huge, many, many),
                change(1, huge, many, many), change(1, 0, many, many), drop(huge), move(huge, huge), move(1, huge),
                rename(huge, huge), cell(huge), makers(huge), readers(huge), state(huge), troubles(huge), cells(),
            ), [[-1], [0], [-3], [-4], [-5], [-8], [-4], [-5], [-8], [-8], [-3], [-5], [-8], [-5], [-5], [-8], [-8],
                [1, 1]])
            self.assertEqual(ask(
                add(1, 0), waves(huge), level(huge), above(huge), below(huge), circle(huge), way(huge, huge),
                way(1, huge), way(huge, 1), ring(huge), why(huge), needed(huge), touched(many), touched([1, huge]),
                suppose(huge, huge, many, many), suppose(1, huge, many, many), suppose(1, 0, many, many),
                suppose(1, 0, [], [huge]), without(huge), cells(),
            ), [[0], [-10], *[[-8]] * 13, [-4], [-5], [-5], [-8], [1, 1]])

    def test_four_hundred_calls(self):
        calls = [call for turn in range(100) for call in (add(99, 0, 1, [turn % 32]), cells(), drop(99), cells())]
        self.assertEqual(ask(*calls), [[0], [1, 99], [0], [0]] * 100)

    def test_longest_list(self):
        call = add(1, 0, 0, [0] * 15, [1] * 15)
        calls = written([call] * 400)
        self.assertEqual(answers(calls), [1, -6] * 400)
        long_calls = written([add(1, 0, 0, list(range(40)), list(range(40)))] * 180)
        self.assertEqual(answers(long_calls), [1, -5] * 180)
        touching = written([add(1, 0), *[touched([1] * 38)] * 399])
        self.assertEqual(answers(touching), [1, 0] + [2, 1, 1] * 399)


if __name__ == "__main__":
    unittest.main()
