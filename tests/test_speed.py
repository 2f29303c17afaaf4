"""How much work the package does, counted in lines that it runs, which is the same on every machine."""

import itertools
import unittest

from tests.support import lines_run, plain_base
from triplefree import base, comparison
from triplefree.cells import Cell
from triplefree.greedy import ClosestSequence, GreedySequence, common_beginning, first_difference
from triplefree.growing import Growing
from triplefree.products import Stack
from triplefree.ruled import RuledSequence
from triplefree.search import moduli

FORTY = tuple(plain_base(1000)[:40])
WIDE = (*FORTY[:39], 10 ** 6)
LONG = (3 ** 190 - 1) // 2
GREAT = (3 ** 126 - 1) // 2


class GreedyTest(unittest.TestCase):
    def test_making_a_sequence_computes_nothing_behind_the_start(self):
        for made in (GreedySequence, ClosestSequence):
            for start in ((0,), (0, 2), (999999, 1000000), FORTY, WIDE):
                self.assertLess(lines_run(made, start), 2000)
                sequence = made(start)
                self.assertLess(lines_run(made.of_numbers, *start), 2000)
                self.assertLess(lines_run(lambda: (sequence.start, sequence.last, sequence.horizon)), 10)
                self.assertLess(lines_run(str, sequence), 100)
        for start in ((0,), (0, 2), FORTY):
            sequence = GreedySequence(start)
            self.assertLess(lines_run(sequence.shifted, 5), 1000)
            self.assertLess(lines_run(sequence.continued, 40), 1500)

    def test_members_are_computed_as_far_as_they_are_asked_for(self):
        for start in ((0,), (0, 2), (999999, 1000000)):
            last = start[-1]
            self.assertLess(lines_run(lambda: GreedySequence(start).member(5)), 250)
            self.assertLess(lines_run(lambda: GreedySequence(start).contains(last + 10)), 250)
            self.assertLess(lines_run(lambda: GreedySequence(start).rank(last + 10)), 250)
            self.assertLess(lines_run(lambda: list(GreedySequence(start).coverings(last + 4))), 250)
            self.assertLess(lines_run(lambda: list(itertools.islice(GreedySequence(start).walk(), 5))), 250)
            self.assertLess(lines_run(lambda: GreedySequence(start).beginning), 600)
            self.assertLess(lines_run(lambda: GreedySequence(start) == GreedySequence((0, 1))), 250)
            self.assertLess(lines_run(first_difference, GreedySequence(start), GreedySequence((0, 3))), 150)
            self.assertLess(lines_run(common_beginning, GreedySequence(start), GreedySequence((0, 3))), 150)

    def test_members_are_computed_once(self):
        sequence = GreedySequence((0, 2))
        self.assertLess(lines_run(sequence.contains, sequence.horizon), 2500)
        for x in (10, 1000, sequence.horizon):
            self.assertLess(lines_run(sequence.contains, x), 20)
            self.assertLess(lines_run(sequence.rank, x), 100)
        self.assertLess(lines_run(sequence.member, 60), 20)
        self.assertLess(lines_run(lambda: sequence.beginning), 20)


class DigitsTest(unittest.TestCase):
    def test_join_and_meet(self):
        self.assertLess(lines_run(base.join, *[LONG] * 9), 1500)
        self.assertLess(lines_run(base.meet, LONG, LONG), 400)

    def test_functions_of_one_number(self):
        for call in (base.in_base, base.base_rank, base.next_base, base.last_base, base.sum_count, base.plain_pair):
            self.assertLess(lines_run(call, GREAT), 150)
        self.assertLess(lines_run(base.base_member, 2 ** 200 - 1), 50)

    def test_sum_pairs(self):
        self.assertLess(lines_run(lambda: next(base.sum_pairs(GREAT))), 150)
        self.assertLess(lines_run(lambda: list(itertools.islice(base.sum_pairs(GREAT), 1000))), 4500)


class CellTest(unittest.TestCase):
    def test_making_a_great_cell(self):
        self.assertLess(lines_run(Cell, 3 ** 8, plain_base(3 ** 8)), 10000)


class StackTest(unittest.TestCase):
    def test_questions_about_high_stacks(self):
        stack = Stack.repeated(Cell(10, (0, 1, 7, 8)), 100)
        x = stack.member(10 ** 59)
        for call in (stack.member, stack.rank, stack.contains, stack.coordinates, stack.composed_pair):
            self.assertLess(lines_run(call, x), 3500)


class SearchTest(unittest.TestCase):
    def test_moduli_are_found_one_by_one(self):
        self.assertLess(lines_run(lambda: next(moduli((0, 3), most=729))), 4000)

    def test_sequences_are_compared_as_far_as_they_agree(self):
        great = RuledSequence(Cell.base(digits=8))
        other = RuledSequence(Cell(10, (0, 1, 7, 8)))
        self.assertLess(lines_run(comparison.first_difference, great, other), 150)
        self.assertLess(lines_run(comparison.agreement, great, other, great), 5000)


class GrowingTest(unittest.TestCase):
    def test_steps(self):
        for start in ((0,), (0, 4)):
            self.assertLess(lines_run(Growing(start).grow, 2000), 150000)

    def test_a_small_change_of_a_great_set(self):
        growing = Growing((0, 4))
        growing.grow(5000)
        self.assertLess(lines_run(growing.grow, 1), 3000)
        self.assertLess(lines_run(growing.forbid, 10 ** 6), 50)
        self.assertLess(lines_run(growing.undo), 50)


if __name__ == "__main__":
    unittest.main()
