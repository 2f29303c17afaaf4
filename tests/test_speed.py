"""How much work the package does, counted in lines that it runs, which is the same on every machine."""

import itertools
import unittest

from tests.support import lines_run, plain_base
from triplefree import base
from triplefree.cells import Cell

LONG = (3 ** 190 - 1) // 2
GREAT = (3 ** 126 - 1) // 2


class DigitsTest(unittest.TestCase):
    def test_join_and_meet(self):
        self.assertLess(lines_run(base.join, *[LONG] * 9), 1500)
        self.assertLess(lines_run(base.meet, LONG, LONG), 400)

    def test_functions_of_one_number(self):
        for call in (base.in_base, base.base_rank, base.next_base, base.last_base, base.sum_count, base.plain_pair):
            self.assertLess(lines_run(call, GREAT), 150)
        self.assertLess(lines_run(base.base_member, 2 ** 200 - 1), 50)

    def test_sum_pairs(self):
        self.assertLess(lines_run(lambda: next(base.sum_pairs(GREAT))), 150)
        self.assertLess(lines_run(lambda: list(itertools.islice(base.sum_pairs(GREAT), 1000))), 4500)


class CellTest(unittest.TestCase):
    def test_making_a_great_cell(self):
        self.assertLess(lines_run(Cell, 3 ** 8, plain_base(3 ** 8)), 10000)


if __name__ == "__main__":
    unittest.main()
