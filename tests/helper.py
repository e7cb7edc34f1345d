"""Writing calls into one list, and taking the answers apart again."""

import unittest

from cellgraph.desk import answers

HUGE = 10 ** 18


def add(number, place, broken=0, makes=(), reads=()):
    return [0, number, place, broken, len(makes), *makes, len(reads), *reads]


def change(number, broken=0, makes=(), reads=()):
    return [1, number, broken, len(makes), *makes, len(reads), *reads]


def drop(number):
    return [2, number]


def move(number, place):
    return [3, number, place]


def tidy():
    return [4]


def rename(old, new):
    return [5, old, new]


def cells():
    return [6]


def cell(number):
    return [7, number]


def makers(name):
    return [8, name]


def readers(name):
    return [9, name]


def state(number):
    return [10, number]


def troubles(number):
    return [11, number]


def order():
    return [12]


def waves(width):
    return [13, width]


def level(number):
    return [14, number]


def above(number):
    return [15, number]


def below(number):
    return [16, number]


def circle(number):
    return [17, number]


def way(begin, end):
    return [18, begin, end]


def ring(number):
    return [19, number]


def why(number):
    return [20, number]


def needed(number):
    return [21, number]


def groups():
    return [22]


def touched(numbers):
    return [23, len(numbers), *numbers]


def suppose(number, broken=0, makes=(), reads=()):
    return [24, number, broken, len(makes), *makes, len(reads), *reads]


def without(number):
    return [25, number]


def written(calls):
    """The calls as the one list that is handed in."""
    return [value for call in calls for value in call]


def split(told):
    """The answers of one list, each as a list of its own."""
    found = []
    position = 0
    while position < len(told):
        end = position + 1 + told[position]
        if told[position] < 1 or end > len(told):
            raise AssertionError(f"answers cut wrongly at {position}: {told}")
        found.append(told[position + 1:end])
        position = end
    return found


def ask(*calls):
    """Each call's answer, all on one new notebook."""
    found = split(answers(written(calls)))
    if len(found) != len(calls):
        raise AssertionError(f"{len(calls)} calls, but {len(found)} answers")
    return found


def last(*calls):
    return ask(*calls)[-1]


def row(*contents):
    """Calls that add cells one behind another; each is told as (number, makes, reads) or with its mark behind."""
    return [
        add(content[0], place, content[3] if len(content) > 3 else 0, content[1], content[2])
        for place, content in enumerate(contents)
    ]


def net(*links):
    """Calls that add cells one behind another, each told as its number and the numbers that it reads from.

    Each makes one name, its place at first; a mark may stand behind.
    """
    names = {link[0]: place for place, link in enumerate(links)}
    return row(*[(link[0], [names[link[0]]], [names[other] for other in link[1]], *link[2:]) for link in links])


EXAMPLE = row((7, [2], [1]), (5, [1], []), (9, [4], [2, 3]), (8, [0], [0]))
EXAMPLE_NUMBERS = [7, 5, 9, 8]
FULL = row(*[(number, [number], []) for number in range(1, 13)])
FULL_NUMBERS = list(range(1, 13))
# A chain of 12 cells, which is 11 steps, and a circle of 12 cells; in both each cell reads from the next one.
LINE = net(*[(number, [number + 1] if number < 12 else []) for number in range(1, 13)])
ROUND = net(*[(number, [number % 12 + 1]) for number in range(1, 13)])
WRONG_NUMBERS = (1, 0, 100, -7, HUGE, -HUGE)


def picture(numbers):
    """Calls that together tell the whole notebook."""
    return [cells()] + [cell(number) for number in numbers]


def pictures_around(setup, numbers, call):
    """The whole notebook before the call, the call's answer, and the whole notebook behind it."""
    look = picture(numbers)
    found = ask(*setup, *look, call, *look)
    begin = len(setup)
    middle = begin + len(look)
    return found[begin:middle], found[middle], found[middle + 1:]


class RefusalCase(unittest.TestCase):
    def refused(self, refusal, setup, numbers, call):
        """The call is refused so, and the notebook is behind it as it was."""
        before, answer, after = pictures_around(setup, numbers, call)
        self.assertEqual(answer, [refusal], call)
        self.assertEqual(before, after, call)


class QuestionCase(unittest.TestCase):
    def tells(self, expected, setup, *calls):
        """Each call answers so, and behind it the whole notebook is as it was."""
        numbers = last(*setup, cells())[1:]
        look = [*picture(numbers), *[state(number) for number in numbers], order()]
        for call in calls:
            found = ask(*setup, *look, call, *look, call)[len(setup):]
            self.assertEqual(found[len(look)], expected, call)
            self.assertEqual(found[:len(look) + 1], found[len(look) + 1:], call)

    def tells_each(self, setup, write, expected):
        """What the calls written for the numbers of a dict answer is what stands there."""
        for number, answer in expected.items():
            self.tells(answer, setup, write(number))

    def tells_no_cell(self, write):
        """A call about one cell is refused with -8 where there is none of that number."""
        self.tells([-8], EXAMPLE, *[write(number) for number in WRONG_NUMBERS])
        self.tells([-8], [], write(1), write(0), write(HUGE))
        self.tells([-8], [*EXAMPLE, drop(7)], write(7))
        self.tells([-8], FULL, write(13))
