"""comparison.py: its interface, and points [53] and [54] against their definitions."""

import itertools
import unittest

from tests.support import HUGE, SMALL_CELLS, Checks, not_numbers, plain_base, plain_cells, plain_ruled
from tests.test_products import not_cells
from triplefree.cells import Cell
from triplefree.comparison import agreement, first_difference, lowered, reduced, translation
from triplefree.errors import InvalidCell
from triplefree.greedy import GreedySequence
from triplefree.products import power, product
from triplefree.ruled import RuledSequence, ShiftedSequence

BASE = Cell.base()
TEN = Cell(10, (0, 1, 7, 8))
UNIT = Cell(1, (0,))
SHIFTS = (None, 0, 1, 7)
FAR = 10 ** 59


def not_sequences():
    """Values of every kind that are not ruled sequences."""
    return [*not_numbers(), 0, 3, BASE, GreedySequence((0,)), (RuledSequence(BASE),), [RuledSequence(BASE)], RuledSequence]


def rows_of_cells():
    """The moduli and members of small cells of every kind."""
    return [*SMALL_CELLS, *[(n, members) for n in (3, 9, 10) for members in plain_cells(n)]]


def made(row, shift):
    """The sequence of a cell, shifted or not, and its members below 300."""
    cell = Cell(*row)
    sequence = RuledSequence(cell) if shift is None else ShiftedSequence(cell, shift=shift)
    return sequence, [x + (shift or 0) for x in plain_ruled(*row, 300)]


def plain_difference(one, other, limit):
    """The least number below a limit that just one of two lists of members has, and how many members are before it."""
    only = [x for x in set(one) ^ set(other) if x < limit]
    if not only:
        return None
    return min(only), len([x for x in one if x < min(only)])


def pairs():
    """Pairs of small sequences with their members."""
    rows = list(itertools.product(SMALL_CELLS[:12], SHIFTS))
    for one, other in itertools.product(rows, repeat=2):
        yield (*made(*one), *made(*other))


class FirstDifferenceTest(unittest.TestCase, Checks):
    def test_by_the_definition(self):
        for one, members, other, others in pairs():
            wanted = plain_difference(members, others, 300)
            found = first_difference(one, other)
            if wanted is None:
                self.assertIsNone(found)
            else:
                self.same(found, wanted[0])

    def test_sequences_that_are_the_same(self):
        one = RuledSequence(BASE)
        for other in (one, RuledSequence(UNIT), RuledSequence(Cell.base(digits=8)), ShiftedSequence(BASE, shift=0)):
            self.assertIsNone(first_difference(one, other))
            self.assertIsNone(first_difference(other, one))
        self.assertIsNone(first_difference(ShiftedSequence(TEN, shift=1), RuledSequence(Cell(10, (1, 2, 8, 9)))))

    def test_late_differences(self):
        great = Cell.base(digits=8)
        self.same(first_difference(RuledSequence(great), RuledSequence(product(Cell.base(digits=6), TEN))), 3 ** 7)
        for e in range(7):
            one = product(power(BASE, e), TEN)
            self.same(first_difference(RuledSequence(one), RuledSequence(UNIT)), 3 ** (e + 1))
        # Both begin with the same 128 members; the next one is different.
        one = product(Cell.base(digits=7), Cell(3, (0, 2)))
        self.same(first_difference(RuledSequence(great), RuledSequence(one)), 3 ** 7)

    def test_great_shifts(self):
        for shift in (FAR, HUGE):
            one = ShiftedSequence(BASE, shift=shift)
            self.assertIsNone(first_difference(one, ShiftedSequence(UNIT, shift=shift)))
            self.same(first_difference(one, ShiftedSequence(UNIT, shift=shift + 1)), shift)
            self.same(first_difference(one, ShiftedSequence(TEN, shift=shift)), shift + 3)
            self.same(first_difference(one, RuledSequence(TEN)), 0)

    def test_by_name(self):
        self.same(first_difference(other=RuledSequence(TEN), one=RuledSequence(BASE)), 3)

    def test_wrong_arguments(self):
        right = RuledSequence(BASE)
        for call in (first_difference, translation):
            for value in not_sequences():
                self.fails(InvalidCell, {"part": "one"}, call, value, right)
                self.fails(InvalidCell, {"part": "one"}, call, value, value)
                self.fails(InvalidCell, {"part": "other"}, call, right, value)


class AgreementTest(unittest.TestCase, Checks):
    def test_two_by_the_definition(self):
        for one, members, other, others in pairs():
            wanted = plain_difference(members, others, 300)
            found = agreement(one, other)
            if wanted is None:
                self.assertIsNone(found)
            else:
                self.same(found, wanted[1])

    def test_several(self):
        rows = [made(row, shift) for row in SMALL_CELLS[:12:2] for shift in (None, 0)]
        for group in itertools.product(rows[::2], repeat=3):
            sequences = [sequence for sequence, _ in group]
            columns = list(zip(*[members for _, members in group]))
            different = [at for at, column in enumerate(columns) if len(set(column)) > 1]
            found = agreement(*sequences)
            if different:
                self.same(found, different[0])
            else:
                self.assertIsNone(found)

    def test_few_and_many(self):
        one = RuledSequence(BASE)
        self.assertIsNone(agreement(one))
        self.assertIsNone(agreement(*[one] * 50))
        self.same(agreement(*[one] * 50, RuledSequence(TEN)), 2)
        self.same(agreement(one, RuledSequence(TEN), ShiftedSequence(BASE, shift=1)), 0)
        self.assertIsNone(agreement(RuledSequence(Cell.base(digits=8)), one, RuledSequence(UNIT)))
        self.same(agreement(RuledSequence(Cell.base(digits=8)), RuledSequence(product(Cell.base(digits=6), TEN))), 128)

    def test_the_first_two_agree_longer(self):
        one = RuledSequence(product(BASE, TEN))
        other = RuledSequence(Cell.base(digits=2))
        third = RuledSequence(Cell(3, (0, 2)))
        self.same(agreement(one, other), 4)
        for group in itertools.permutations((one, other, third)):
            self.same(agreement(*group), 1)

    def test_wrong_arguments(self):
        self.fails(InvalidCell, {"part": "count"}, agreement)
        right = RuledSequence(BASE)
        for value in not_sequences():
            self.fails(InvalidCell, {"part": 0}, agreement, value)
            self.fails(InvalidCell, {"part": 1}, agreement, right, value, None)
            # All arguments are examined before any comparison.
            self.fails(InvalidCell, {"part": 2}, agreement, right, RuledSequence(TEN), value)


class TranslationTest(unittest.TestCase, Checks):
    def test_by_the_definition(self):
        for one, members, other, others in pairs():
            difference = others[0] - members[0]
            moved = [x + difference for x in members]
            if plain_difference(moved, others, 250) is None:
                self.same(translation(one, other), difference)
            else:
                self.assertIsNone(translation(one, other))

    def test_great_shifts(self):
        one = ShiftedSequence(BASE, shift=FAR)
        self.same(translation(one, RuledSequence(UNIT)), -FAR)
        self.same(translation(RuledSequence(Cell.base(digits=8)), one), FAR)
        self.same(translation(one, one), 0)
        self.same(translation(ShiftedSequence(TEN, shift=HUGE), RuledSequence(Cell(10, (1, 2, 8, 9)))), 1 - HUGE)
        self.assertIsNone(translation(one, RuledSequence(TEN)))

    def test_late_differences(self):
        one = RuledSequence(Cell.base(digits=8))
        other = ShiftedSequence(product(Cell.base(digits=7), Cell(3, (0, 2))), shift=5)
        self.assertIsNone(translation(one, other))
        self.assertIsNone(translation(other, one))

    def test_by_name(self):
        self.same(translation(other=RuledSequence(BASE), one=ShiftedSequence(BASE, shift=2)), -2)


class CellsTest(unittest.TestCase, Checks):
    def test_reduced(self):
        for e in range(9):
            self.same(reduced(Cell.base(digits=e)), UNIT)
        rows = rows_of_cells()
        cells = [Cell(*row) for row in rows]
        for cell, row in zip(cells, rows):
            numbers = plain_ruled(*row, 300)
            same = [other for other, wanted in zip(cells, rows) if plain_ruled(*wanted, 300) == numbers]
            self.assertEqual(reduced(cell), min(same, key=lambda other: other.modulus))

    def test_reduced_great(self):
        for row in rows_of_cells():
            cell = Cell(*row)
            least = reduced(cell)
            while 3 * cell.modulus <= 20000 and 2 * cell.size <= 256:
                cell = RuledSequence(cell).tripled().cell
                self.same(reduced(cell), least)
        cell = product(TEN, Cell.base(digits=6))
        self.assertEqual((cell.modulus, cell.size), (7290, 256))
        self.same(reduced(cell), TEN)

    def test_reduced_keeps_what_cannot_be_reduced(self):
        for cell in (UNIT, TEN, Cell(3, (0, 2)), Cell(9, (0, 3, 4, 7)), product(BASE, TEN)):
            self.same(reduced(cell), cell)

    def test_lowered(self):
        for modulus, members in rows_of_cells():
            found = lowered(Cell(modulus, members))
            self.same(found.members, tuple(a - members[0] for a in members))
            self.same(found.modulus, modulus)
        self.same(lowered(Cell(10, (1, 2, 8, 9))), TEN)
        high = Cell(3 ** 8, [3 ** 8 - 1 - a for a in reversed(plain_base(3 ** 8))])
        self.same(lowered(high), Cell.base(digits=8))

    def test_by_name(self):
        self.same(reduced(cell=BASE), UNIT)
        self.same(lowered(cell=Cell(3, (1, 2))), BASE)

    def test_wrong_cells(self):
        for call in (reduced, lowered):
            for value in not_cells():
                self.fails(InvalidCell, {"part": "cell"}, call, value)


class Point53Test(unittest.TestCase, Checks):
    def test_the_members_below_the_greater_modulus_decide(self):
        for one, members, other, others in pairs():
            if members[0] == others[0]:
                limit = members[0] + max(one.cell.modulus, other.cell.modulus)
                short = [x for x in members if x < limit] == [x for x in others if x < limit]
                self.assertEqual(short, first_difference(one, other) is None)


class Point54Test(unittest.TestCase, Checks):
    def test_shifts_of_each_other(self):
        cells = [Cell(*row) for row in rows_of_cells()]
        for one, other in itertools.product(cells, repeat=2):
            same = reduced(lowered(one)) == reduced(lowered(other))
            self.assertEqual(translation(RuledSequence(one), RuledSequence(other)) is not None, same)


if __name__ == "__main__":
    unittest.main()
