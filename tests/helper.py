"""Writing calls into one list, and taking the answers apart again."""

import unittest

from cellgraph.desk import answers

HUGE = 10 ** 18


def add(number, place, broken=0, makes=(), reads=()):
    return [0, number, place, broken, len(makes), *makes, len(reads), *reads]


def change(number, broken=0, makes=(), reads=()):
    return [1, number, broken, len(makes), *makes, len(reads), *reads]


def drop(number):
    return [2, number]


def move(number, place):
    return [3, number, place]


def tidy():
    return [4]


def rename(old, new):
    return [5, old, new]


def cells():
    return [6]


def cell(number):
    return [7, number]


def makers(name):
    return [8, name]


def readers(name):
    return [9, name]


def state(number):
    return [10, number]


def troubles(number):
    return [11, number]


def order():
    return [12]


def written(calls):
    """The calls as the one list that is handed in."""
    return [value for call in calls for value in call]


def split(told):
    """The answers of one list, each as a list of its own."""
    found = []
    position = 0
    while position < len(told):
        end = position + 1 + told[position]
        if told[position] < 1 or end > len(told):
            raise AssertionError(f"answers cut wrongly at {position}: {told}")
        found.append(told[position + 1:end])
        position = end
    return found


def ask(*calls):
    """Each call's answer, all on one new notebook."""
    found = split(answers(written(calls)))
    if len(found) != len(calls):
        raise AssertionError(f"{len(calls)} calls, but {len(found)} answers")
    return found


def last(*calls):
    return ask(*calls)[-1]


def row(*contents):
    """Calls that add cells one behind another; each is told as (number, makes, reads) or with its mark behind."""
    return [
        add(content[0], place, content[3] if len(content) > 3 else 0, content[1], content[2])
        for place, content in enumerate(contents)
    ]


EXAMPLE = row((7, [2], [1]), (5, [1], []), (9, [4], [2, 3]), (8, [0], [0]))
EXAMPLE_NUMBERS = [7, 5, 9, 8]
FULL = row(*[(number, [number], []) for number in range(1, 13)])
FULL_NUMBERS = list(range(1, 13))


def picture(numbers):
    """Calls that together tell the whole notebook."""
    return [cells()] + [cell(number) for number in numbers]


def pictures_around(setup, numbers, call):
    """The whole notebook before the call, the call's answer, and the whole notebook behind it."""
    look = picture(numbers)
    found = ask(*setup, *look, call, *look)
    begin = len(setup)
    middle = begin + len(look)
    return found[begin:middle], found[middle], found[middle + 1:]


class RefusalCase(unittest.TestCase):
    def refused(self, refusal, setup, numbers, call):
        """The call is refused so, and the notebook is behind it as it was."""
        before, answer, after = pictures_around(setup, numbers, call)
        self.assertEqual(answer, [refusal], call)
        self.assertEqual(before, after, call)
