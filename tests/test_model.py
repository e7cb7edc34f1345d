"""All points together: many lists of calls against a slow reading of the document's words."""

import copy
import random
import unittest

from cellgraph.desk import answers
from tests.helper import HUGE, net, written


class Model:
    """Cells by their numbers, and everything else found anew from the words each time it is asked."""

    def __init__(self):
        self.numbers = []
        self.marks = {}
        self.makes = {}
        self.reads = {}

    def content_refusals(self, broken, makes, reads):
        both = makes + reads
        return [
            (-4, broken not in (0, 1)),
            (-5, any(name not in range(32) for name in both)),
            (-6, any(names.count(name) > 1 for names in (makes, reads) for name in names)),
        ]

    def put(self, number, broken, makes, reads):
        self.marks[number], self.makes[number], self.reads[number] = broken, set(makes), set(reads)

    def add(self, number, place, broken, makes, reads):
        for refusal, fits in [
            (-1, number not in range(1, 100)),
            (-2, number in self.numbers),
            (-3, place not in range(len(self.numbers) + 1)),
            *self.content_refusals(broken, makes, reads),
            (-7, len(self.numbers) == 12),
        ]:
            if fits:
                return [refusal]
        self.numbers = self.numbers[:place] + [number] + self.numbers[place:]
        self.put(number, broken, makes, reads)
        return [0]

    def change(self, number, broken, makes, reads):
        for refusal, fits in [(-8, number not in self.numbers), *self.content_refusals(broken, makes, reads)]:
            if fits:
                return [refusal]
        self.put(number, broken, makes, reads)
        return [0]

    def drop(self, number):
        if number not in self.numbers:
            return [-8]
        self.numbers = [other for other in self.numbers if other != number]
        return [0]

    def move(self, number, place):
        if number not in self.numbers:
            return [-8]
        if place not in range(len(self.numbers)):
            return [-3]
        others = [other for other in self.numbers if other != number]
        self.numbers = others[:place] + [number] + others[place:]
        return [0]

    def tidy(self):
        before = self.numbers
        first = self.running_order()
        self.numbers = first + [number for number in before if number not in first]
        return [sum(old != new for old, new in zip(before, self.numbers))]

    def rename(self, old, new):
        if old not in range(32) or new not in range(32):
            return [-5]
        lists = [names for number in self.numbers for names in (self.makes[number], self.reads[number])]
        if any(new in names for names in lists):
            return [-9]
        count = sum(old in self.makes[number] | self.reads[number] for number in self.numbers)
        for names in lists:
            if old in names:
                names.remove(old)
                names.add(new)
        return [count]

    def cells(self):
        return [len(self.numbers), *self.numbers]

    def cell(self, number):
        if number not in self.numbers:
            return [-8]
        makes, reads = sorted(self.makes[number]), sorted(self.reads[number])
        return [0, self.numbers.index(number), self.marks[number], len(makes), *makes, len(reads), *reads]

    def making(self, name):
        return [number for number in self.numbers if name in self.makes[number]]

    def makers(self, name):
        found = self.making(name)
        return [len(found), *found] if name in range(32) else [-5]

    def readers(self, name):
        found = [number for number in self.numbers if name in self.reads[number]]
        return [len(found), *found] if name in range(32) else [-5]

    def reads_from(self, reader, other):
        return any(self.making(name) == [other] for name in self.reads[reader])

    def above_pairs(self):
        """All pairs of a cell and a cell above it, by joining pairs until none is new."""
        pairs = {(low, high) for low in self.numbers for high in self.numbers if self.reads_from(low, high)}
        while True:
            longer = pairs | {(low, top) for low, high in pairs for middle, top in pairs if high == middle}
            if longer == pairs:
                return pairs
            pairs = longer

    def sickness(self, number, pairs):
        if self.marks[number] == 1:
            return 1
        if any(len(self.making(name)) > 1 for name in self.makes[number]):
            return 2
        if (number, number) in pairs:
            return 3
        if any(not self.making(name) for name in self.reads[number]):
            return 4
        if any(len(self.making(name)) > 1 for name in self.reads[number]):
            return 5
        return 0

    def all_states(self):
        pairs = self.above_pairs()
        sick = {number: self.sickness(number, pairs) for number in self.numbers}
        states = {}
        for number in self.numbers:
            behind = any(low == number and sick[high] for low, high in pairs)
            states[number] = sick[number] or (6 if behind else 0)
        return states

    def state(self, number):
        return [self.all_states()[number]] if number in self.numbers else [-8]

    def troubles(self, number):
        if number not in self.numbers:
            return [-8]
        states = self.all_states()
        made, read = sorted(self.makes[number]), sorted(self.reads[number])
        found = [(1, 0)] if self.marks[number] else []
        found += [(2, name) for name in made if self.making(name) != [number]]
        found += [(3, 0)] if (number, number) in self.above_pairs() else []
        found += [(4, name) for name in read if self.making(name) == []]
        found += [(5, name) for name in read if len(self.making(name)) >= 2]
        found += [(6, other) for other in self.numbers
                  if other != number and self.reads_from(number, other) and states[other] != 0]
        return [len(found)] + [value for trouble in found for value in trouble]

    def running_order(self):
        states = self.all_states()
        pairs = self.above_pairs()
        taken = []
        left = [number for number in self.numbers if states[number] == 0]
        while left:
            for number in left:
                if all(high in taken for low, high in pairs if low == number):
                    break
            taken.append(number)
            left.remove(number)
        return taken

    def order(self):
        found = self.running_order()
        return [len(found), *found]

    def waves(self, width):
        if width not in range(1, 13):
            return [-10]
        states = self.all_states()
        pairs = self.above_pairs()
        left = [number for number in self.numbers if states[number] == 0]
        rounds = []
        while left:
            before = [number for made in rounds for number in made]
            ready = [number for number in left if all(high in before for low, high in pairs if low == number)]
            rounds.append(ready[:width])
            left = [number for number in left if number not in rounds[-1]]
        return [len(rounds)] + [value for made in rounds for value in (len(made), *made)]

    def chains(self, number):
        """For 0 to 12 steps all chains that begin with the cell, those of lower places first."""
        straight = {low: [high for high in self.numbers if self.reads_from(low, high)] for low in self.numbers}
        found = [[number]]
        for steps in range(13):
            yield found
            found = [chain + [other] for chain in found for other in straight[chain[-1]]]

    def shortest(self, number, fits):
        """The first chain that fits, of those with fewest steps."""
        for found in self.chains(number):
            for chain in found:
                if fits(chain):
                    return chain
        raise AssertionError("there is no such chain")

    def unclear_refusal(self, number):
        if number not in self.numbers:
            return [-8]
        return [-11] if self.all_states()[number] != 0 else None

    def level(self, number):
        refusal = self.unclear_refusal(number)
        return refusal or [max(steps for steps, found in enumerate(self.chains(number)) if found)]

    def listed(self, number, fits):
        if number not in self.numbers:
            return [-8]
        found = [other for other in self.numbers if fits(other)]
        return [len(found), *found]

    def above(self, number):
        pairs = self.above_pairs()
        return self.listed(number, lambda other: (number, other) in pairs)

    def below(self, number):
        pairs = self.above_pairs()
        return self.listed(number, lambda other: (other, number) in pairs)

    def circle(self, number):
        pairs = self.above_pairs()
        return self.listed(number, lambda other: (number, other) in pairs and (other, number) in pairs)

    def way(self, begin, end):
        if begin not in self.numbers or end not in self.numbers:
            return [-8]
        if begin != end and (begin, end) not in self.above_pairs():
            return [-12]
        chain = self.shortest(begin, lambda chain: chain[-1] == end)
        return [len(chain), *chain]

    def ring(self, number):
        if number not in self.numbers:
            return [-8]
        if (number, number) not in self.above_pairs():
            return [0]
        chain = self.shortest(number, lambda chain: len(chain) > 1 and chain[-1] == number)
        return [len(chain) - 1, *chain[:-1]]

    def why(self, number):
        if number not in self.numbers:
            return [-8]
        states = self.all_states()
        if states[number] == 0:
            return [0]
        chain = self.shortest(number, lambda chain: states[chain[-1]] in (1, 2, 3, 4, 5))
        return [len(chain), *chain]

    def needed(self, number):
        refusal = self.unclear_refusal(number)
        if refusal:
            return refusal
        pairs = self.above_pairs()
        straight = [other for other in self.numbers if self.reads_from(number, other)]
        return self.listed(number, lambda other: other in straight and not any(
            (third, other) in pairs for third in straight if third != other))

    def groups(self):
        marks = {number: number for number in self.numbers}
        for low in self.numbers:
            for high in self.numbers:
                if self.reads_from(low, high):
                    old, new = marks[low], marks[high]
                    marks = {number: new if mark == old else mark for number, mark in marks.items()}
        found = {}
        for number in self.numbers:
            found.setdefault(marks[number], []).append(number)
        return [len(found)] + [value for group in found.values() for value in (len(group), *group)]

    def touched(self, numbers):
        if any(number not in self.numbers for number in numbers):
            return [-8]
        pairs = self.above_pairs()
        found = [number for number in self.running_order()
                 if number in numbers or any((number, other) in pairs for other in numbers)]
        return [len(found), *found]

    def differing(self, later):
        now, then = self.all_states(), later.all_states()
        found = [(number, now[number], then[number]) for number in self.numbers
                 if number in then and now[number] != then[number]]
        return [len(found)] + [value for values in found for value in values]

    def suppose(self, number, broken, makes, reads):
        later = copy.deepcopy(self)
        refusal = later.change(number, broken, makes, reads)
        return self.differing(later) if refusal == [0] else refusal

    def without(self, number):
        later = copy.deepcopy(self)
        refusal = later.drop(number)
        return self.differing(later) if refusal == [0] else refusal

    def answer(self, call):
        kind, values = call[0], call[1:]
        if kind in ROWS:
            wholes, rows = ROWS[kind]
            position = 1 + wholes
            values = call[1:position]
            for taken in range(rows):
                begin = position + 1
                position = begin + call[position]
                values.append(call[begin:position])
        return (
            self.add, self.change, self.drop, self.move, self.tidy, self.rename, self.cells, self.cell, self.makers,
            self.readers, self.state, self.troubles, self.order, self.waves, self.level, self.above, self.below,
            self.circle, self.way, self.ring, self.why, self.needed, self.groups, self.touched, self.suppose,
            self.without,
        )[kind](*values)


# The calls with lists: how many whole numbers stand ahead, and how many lists follow.
ROWS = {0: (3, 2), 1: (2, 2), 23: (0, 1), 24: (2, 2)}


class Source:
    """Calls from a fixed seed, most of them sound, over few enough names that cells meet."""

    def __init__(self, seed):
        self.random = random.Random(seed)
        self.most_names = self.random.choice((4, 8, 14, 32))
        self.most_numbers = self.random.choice((5, 13, 20))
        self.backwards = self.random.choice((0, 0, 0.1, 0.3))

    def rarely(self, wrong, right):
        return self.random.choice(wrong) if self.random.random() < 0.03 else right

    def number(self):
        return self.rarely((0, 1, 99, 100, -1, HUGE, -HUGE), self.random.randint(1, self.most_numbers))

    def place(self):
        return self.rarely((-1, 11, 12, 13, HUGE, -HUGE), self.random.randint(0, 6))

    def mark(self):
        return self.rarely((-1, 2, HUGE, -HUGE), int(self.random.random() < 0.1))

    def name(self):
        return self.rarely((-1, 0, 31, 32, HUGE, -HUGE), self.random.randrange(self.most_names))

    def names(self, most):
        names = self.random.sample(range(self.most_names), min(self.random.randint(0, most), self.most_names))
        if self.random.random() < 0.03:
            names += [self.name(), *names[:1]]
        return [len(names), *names]

    def content(self):
        return [self.mark(), *self.names(2), *self.names(3)]

    def call(self, kind):
        if kind == 0:
            return [kind, self.number(), self.place(), *self.content()]
        if kind in (1, 24):
            return [kind, self.number(), *self.content()]
        if kind == 3:
            return [kind, self.number(), self.place()]
        if kind == 5:
            return [kind, self.name(), self.name()]
        if kind in (4, 6, 12, 22):
            return [kind]
        if kind == 13:
            return [kind, self.rarely((-1, 0, 13, HUGE, -HUGE), self.random.choice((1, 1, 2, 2, 3, 4, 12)))]
        if kind == 18:
            return [kind, self.number(), self.number()]
        if kind == 23:
            numbers = [self.number() for turn in range(self.random.choice((0, 1, 1, 2, 3)))]
            return [kind, len(numbers), *numbers]
        return [kind, self.name() if kind in (8, 9) else self.number()]

    def calls(self, weights):
        kinds = self.random.choices(range(26), weights, k=120)
        return [self.call(kind) for kind in kinds]


    def net_calls(self):
        """A notebook in which most cells are joined, and all that can be asked of it."""
        numbers = self.random.sample(range(1, 100), self.random.choice((3, 6, 9, 12, 12)))
        rank = {number: self.random.random() for number in numbers}
        links = []
        for number in numbers:
            upper = [other for other in numbers if rank[other] > rank[number]]
            others = self.random.sample(upper, min(len(upper), self.random.choice((0, 1, 2, 2, 3))))
            if self.random.random() < self.backwards:
                others = sorted({*others, self.random.choice(numbers)})
            links.append((number, others, int(self.random.random() < self.backwards / 2)))
        calls = net(*links)
        calls += [[kind, number] for kind in (10, 11, 14, 15, 16, 17, 19, 20, 21, 25) for number in numbers]
        calls += [[18, self.random.choice(numbers), self.random.choice(numbers)] for turn in range(60)]
        calls += [[13, width] for width in range(1, 13)] + [[12], [22]]
        calls += [[23, 2, self.random.choice(numbers), self.random.choice(numbers)] for turn in range(20)]
        calls += [[24, self.random.choice(numbers), *self.content()] for turn in range(20)]
        return calls


FIRST = (9, 3, 1, 2, 1, 2, 1, 2, 1, 1, 3, 4, 3)
NONE = (0,) * 13
LATER = (3, 2, 2, 2, 2, 5, 3, 3, 2, 3, 2, 3, 3)


class ModelTest(unittest.TestCase):
    def compare(self, seed, calls):
        model = Model()
        expected = []
        for call in calls:
            told = model.answer(call)
            expected += [len(told), *told]
        self.assertEqual(answers(written(calls)), expected, f"seed {seed}")

    def test_many_lists_of_the_first_calls(self):
        for seed in range(60):
            self.compare(seed, Source(seed).calls(FIRST + NONE))

    def test_many_lists_of_all_calls(self):
        for seed in range(100, 160):
            self.compare(seed, Source(seed).calls(FIRST + LATER))

    def test_many_nets(self):
        for seed in range(200, 240):
            self.compare(seed, Source(seed).net_calls())


if __name__ == "__main__":
    unittest.main()
