"""The functions of products.py: ordinary values, edges and wrong values."""

import itertools
import unittest

from tests.support import HUGE, SMALL_CELLS, Checks, not_numbers
from triplefree.cells import Cell
from triplefree.errors import InvalidCell, InvalidNumber, TooLarge
from triplefree.products import (
    chain,
    factorizations,
    is_irreducible,
    left_quotient,
    power,
    product,
    right_quotient,
)
from triplefree.ruled import RuledSequence

BASE = Cell.base()
TEN = Cell(10, (0, 1, 7, 8))
UNIT = Cell(1, (0,))


def not_cells():
    """Values of every kind that are not cells."""
    return [*not_numbers(), 0, 3, (3, (0, 1)), "3 : 0 1", [BASE], (BASE,), RuledSequence(BASE), Cell]


def small_cells():
    """Cells with moduli from 1 to 30."""
    return [Cell(modulus, members) for modulus, members in SMALL_CELLS]


class ProductTest(unittest.TestCase, Checks):
    def test_example_of_the_interface(self):
        self.same(str(product(BASE, TEN)), "30 : 0 1 3 4 21 22 24 25")

    def test_the_order_of_the_factors(self):
        self.assertEqual(str(product(TEN, BASE)), "30 : 0 1 7 8 10 11 17 18")

    def test_no_factor_and_one(self):
        self.same(product(), UNIT)
        for cell in small_cells():
            self.same(product(cell), cell)

    def test_three_factors(self):
        self.assertEqual(product(BASE, UNIT, BASE, BASE), Cell.base(digits=3))

    def test_arguments_that_are_no_cells(self):
        for value in not_cells():
            self.fails(InvalidCell, {"part": 0}, product, value)
            self.fails(InvalidCell, {"part": 1}, product, BASE, value, None)
            self.fails(InvalidCell, {"part": 3}, product, BASE, BASE, TEN, value)
            # The kinds of all arguments are examined before the limits.
            self.fails(InvalidCell, {"part": 2}, product, Cell.base(digits=8), Cell.base(digits=8), value)

    def test_the_greatest_products(self):
        great = Cell.base(digits=8)
        self.assertEqual(product(great, BASE.base(digits=0)), great)
        self.assertEqual(product(Cell.base(digits=4), Cell.base(digits=4)), great)
        # The modulus 3 ** 9 is not too great, but the members are too many.
        self.assertLess(3 ** 9, 20000)
        self.fails(TooLarge, {"limit": 256}, product, great, BASE)
        self.fails(TooLarge, {"limit": 256}, product, *[BASE] * 9)
        self.fails(TooLarge, {"limit": 20000}, product, *[BASE] * 10)
        self.fails(TooLarge, {"limit": 20000}, product, great, great)
        self.fails(TooLarge, {"limit": 20000}, product, TEN, TEN, TEN, TEN, BASE)

    def test_ten_to_the_fourth(self):
        found = product(TEN, TEN, TEN, TEN)
        self.assertEqual((found.modulus, found.size), (10000, 256))
        self.assertEqual(found.members[:5], (0, 1, 7, 8, 10))

    def test_many_units(self):
        self.assertEqual(product(*[UNIT] * 500), UNIT)
        self.assertEqual(product(*[UNIT] * 50, TEN, *[UNIT] * 50), TEN)


class PowerTest(unittest.TestCase, Checks):
    def test_small_powers(self):
        for cell in small_cells():
            self.same(power(cell, 0), UNIT)
            self.same(power(cell, 1), cell)
            if cell.modulus <= 30:
                self.same(power(cell, 2), product(cell, cell))
        self.assertEqual(power(BASE, 8), Cell.base(digits=8))
        self.assertEqual(power(TEN, 4), product(TEN, TEN, TEN, TEN))

    def test_by_name(self):
        self.assertEqual(power(exponent=2, cell=BASE), Cell.base(digits=2))

    def test_the_unit_has_all_powers(self):
        for exponent in (0, 1, 14, 15, 16, 1000, HUGE):
            self.same(power(UNIT, exponent), UNIT)

    def test_wrong_arguments(self):
        for value in not_cells():
            self.fails(InvalidCell, {"part": "cell"}, power, value, 2)
            self.fails(InvalidCell, {"part": "cell"}, power, value, -1)
        for value in not_numbers():
            self.fails(InvalidNumber, {"given": value}, power, BASE, value)
            self.fails(InvalidNumber, {"given": value}, power, UNIT, value)

    def test_too_large(self):
        self.fails(TooLarge, {"limit": 256}, power, BASE, 9)
        for exponent in (10, 11, 14, 15, 16, 17, 100, HUGE):
            self.fails(TooLarge, {"limit": 20000}, power, BASE, exponent)
        for exponent in (5, 6, 100, HUGE):
            self.fails(TooLarge, {"limit": 20000}, power, TEN, exponent)
        self.fails(TooLarge, {"limit": 20000}, power, Cell.base(digits=8), 2)


class QuotientTest(unittest.TestCase, Checks):
    def test_quotients_of_products(self):
        for left, right in itertools.product(small_cells(), repeat=2):
            cell = product(left, right)
            self.same(left_quotient(cell, right), left)
            self.same(right_quotient(cell, left), right)

    def test_the_unit_and_the_cell_itself(self):
        for cell in small_cells():
            self.same(left_quotient(cell, UNIT), cell)
            self.same(right_quotient(cell, UNIT), cell)
            self.same(left_quotient(cell, cell), UNIT)
            self.same(right_quotient(cell, cell), UNIT)

    def test_no_quotient(self):
        rows = [(UNIT, BASE), (BASE, TEN), (TEN, BASE), (TEN, Cell.base(digits=2)), (BASE, Cell.base(digits=2))]
        rows += [(Cell(9, (0, 3, 4, 7)), BASE), (BASE, Cell(3, (0, 2))), (TEN, Cell(10, (1, 2, 8, 9)))]
        rows += [(Cell.base(digits=8), TEN)]
        for cell, factor in rows:
            self.assertIsNone(left_quotient(cell, factor))
            self.assertIsNone(right_quotient(cell, factor))

    def test_the_side_matters(self):
        self.assertIsNone(left_quotient(product(BASE, TEN), BASE))
        self.assertIsNone(right_quotient(product(BASE, TEN), TEN))

    def test_by_name(self):
        self.assertEqual(left_quotient(factor=TEN, cell=product(BASE, TEN)), BASE)
        self.assertEqual(right_quotient(factor=BASE, cell=product(BASE, TEN)), TEN)

    def test_great_cells(self):
        great = Cell.base(digits=8)
        for digits in range(9):
            self.assertEqual(left_quotient(great, Cell.base(digits=digits)), Cell.base(digits=8 - digits))
            self.assertEqual(right_quotient(great, Cell.base(digits=digits)), Cell.base(digits=8 - digits))

    def test_wrong_arguments(self):
        for call in (left_quotient, right_quotient):
            for value in not_cells():
                self.fails(InvalidCell, {"part": "cell"}, call, value, BASE)
                self.fails(InvalidCell, {"part": "cell"}, call, value, value)
                self.fails(InvalidCell, {"part": "factor"}, call, BASE, value)


class FactorizationTest(unittest.TestCase, Checks):
    def test_factorizations(self):
        found = list(factorizations(Cell.base(digits=3)))
        self.assertEqual(found, [(BASE, Cell.base(digits=2)), (Cell.base(digits=2), BASE)])
        for row in found:
            self.assertIs(row.__class__, tuple)
        self.assertEqual(list(factorizations(product(TEN, BASE))), [(TEN, BASE)])
        self.assertEqual(list(factorizations(product(BASE, TEN))), [(BASE, TEN)])
        for cell in (UNIT, BASE, TEN, Cell(9, (0, 3, 4, 7))):
            self.assertEqual(list(factorizations(cell)), [])

    def test_great_factorizations(self):
        found = list(factorizations(Cell.base(digits=8)))
        self.assertEqual([left.modulus for left, _ in found], [3, 9, 27, 81, 243, 729, 2187])
        found = list(factorizations(power(TEN, 4)))
        self.assertEqual([(left.modulus, right.modulus) for left, right in found], [(10, 1000), (100, 100), (1000, 10)])

    def test_is_irreducible(self):
        for cell in (BASE, TEN, Cell(9, (0, 3, 4, 7)), Cell(3, (1, 2))):
            self.same(is_irreducible(cell), True)
        for cell in (UNIT, Cell.base(digits=2), product(TEN, BASE), power(TEN, 4)):
            self.same(is_irreducible(cell), False)

    def test_chain(self):
        self.assertEqual(len(chain(Cell.base(digits=4))), 4)
        self.same(chain(UNIT), ())
        self.same(chain(TEN), (TEN,))
        self.same(chain(product(BASE, TEN, BASE, BASE)), (BASE, TEN, BASE, BASE))
        self.same(chain(Cell.base(digits=8)), (BASE,) * 8)
        self.same(chain(power(TEN, 4)), (TEN,) * 4)

    def test_by_name(self):
        self.assertEqual(list(factorizations(cell=Cell.base(digits=2))), [(BASE, BASE)])
        self.same(is_irreducible(cell=BASE), True)
        self.same(chain(cell=BASE), (BASE,))

    def test_wrong_arguments(self):
        for value in not_cells():
            self.fails_at_first_item(InvalidCell, {"part": "cell"}, factorizations, value)
            self.fails(InvalidCell, {"part": "cell"}, is_irreducible, value)
            self.fails(InvalidCell, {"part": "cell"}, chain, value)


if __name__ == "__main__":
    unittest.main()
