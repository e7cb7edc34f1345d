"""Point 9: makers and readers."""

import unittest

from tests.helper import EXAMPLE, HUGE, ask, last, makers, move, readers, row

SHARED = row((30, [0, 31], [31]), (20, [31], [0, 5]), (10, [31], [31], 1))


class MakersReadersTest(unittest.TestCase):
    def test_example(self):
        self.assertEqual(ask(*EXAMPLE, *[makers(name) for name in range(6)])[-6:],
                         [[1, 8], [1, 5], [1, 7], [0], [1, 9], [0]])
        self.assertEqual(ask(*EXAMPLE, *[readers(name) for name in range(6)])[-6:],
                         [[1, 8], [1, 7], [1, 9], [1, 9], [0], [0]])

    def test_several_in_order_of_place(self):
        self.assertEqual(ask(*SHARED, makers(31), readers(31), makers(0), readers(0))[-4:],
                         [[3, 30, 20, 10], [2, 30, 10], [1, 30], [1, 20]])
        self.assertEqual(ask(*SHARED, move(10, 0), makers(31), readers(31))[-2:], [[3, 10, 30, 20], [2, 10, 30]])

    def test_twelve(self):
        setup = row(*[(99 - place, [4], [5]) for place in range(12)])
        self.assertEqual(ask(*setup, makers(4), readers(5), makers(5), readers(4))[-4:],
                         [[12, *range(99, 87, -1)], [12, *range(99, 87, -1)], [0], [0]])

    def test_empty_notebook(self):
        self.assertEqual(ask(makers(0), makers(31), readers(0), readers(31)), [[0]] * 4)

    def test_name_out_of_range(self):
        for name in (-1, 32, HUGE, -HUGE):
            self.assertEqual(last(*EXAMPLE, makers(name)), [-5])
            self.assertEqual(last(*EXAMPLE, readers(name)), [-5])
            self.assertEqual(ask(makers(name), readers(name)), [[-5], [-5]])


if __name__ == "__main__":
    unittest.main()
