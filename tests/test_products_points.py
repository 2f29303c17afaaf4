"""Points [40] to [45] against their definitions."""

import itertools
import unittest

from tests.support import (
    GREAT_NUMBERS,
    SMALL_CELLS,
    Checks,
    plain_base,
    plain_cells,
    plain_greedy,
    plain_ruled,
    plain_servers,
    plain_violation,
    ternary_word,
)
from triplefree.base import plain_pair
from triplefree.cells import Cell
from triplefree.products import (
    Stack,
    chain,
    factorizations,
    is_irreducible,
    left_quotient,
    power,
    product,
    right_quotient,
)
from triplefree.ruled import RuledSequence

FEW = [row for row in SMALL_CELLS if row[0] <= 10]
UNIT = Cell(1, (0,))


def plain_product(one, other):
    """The modulus and the members of the product of two cells, by the definition."""
    (modulus, members), (second, others) = one, other
    return modulus * second, tuple(sorted(a + modulus * c for a in members for c in others))


def plain_coordinates(rows, x):
    """The coordinates of x for some cells, by the definition."""
    parts = []
    for modulus, _ in rows:
        parts.append(x % modulus)
        x //= modulus
    return (*parts, x)


def in_plain_stack(rows, x):
    """True if x is in the stack of some cells, by the definition."""
    parts = plain_coordinates(rows, x)
    inside = all(part in members for part, (_, members) in zip(parts, rows))
    return inside and "2" not in ternary_word(parts[-1])


def plain_composed_pair(rows, x):
    """The composed pair of x for some cells, by the definition, or None."""
    if not rows:
        return plain_pair(x)
    modulus, members = rows[0]
    q, r = divmod(x, modulus)
    y = z = r
    if r not in members:
        carry, y, z = plain_servers(modulus, members, r)[0]
        q -= carry
    if q == -1:
        return None
    pair = plain_composed_pair(rows[1:], q)
    if pair is None:
        return None
    return y + modulus * pair[0], z + modulus * pair[1]


def plain_factorizations(row):
    """The rows of all pairs of cells, none of them the unit, whose product is the cell."""
    modulus, members = row
    found = []
    for left in range(2, modulus):
        if modulus % left == 0:
            pair = (left, tuple(sorted({a % left for a in members})))
            other = (modulus // left, tuple(sorted({a // left for a in members})))
            cells = plain_violation(*pair) is None and plain_violation(*other) is None
            if cells and other[0] > 1 and plain_product(pair, other) == row:
                found.append((pair, other))
    return found


def row_of(cell):
    """The modulus and the members."""
    return cell.modulus, cell.members


class Point40Test(unittest.TestCase, Checks):
    def test_the_product_by_its_definition(self):
        for one, other in itertools.product(SMALL_CELLS, repeat=2):
            self.assertEqual(row_of(product(Cell(*one), Cell(*other))), plain_product(one, other))

    def test_the_product_is_a_cell(self):
        for one, other in itertools.product(FEW, repeat=2):
            modulus, members = plain_product(one, other)
            if modulus <= 30:
                self.assertIsNone(plain_violation(modulus, members))

    def test_products_are_associative(self):
        rows = [Cell(*row) for row in FEW[::2]]
        for a, b, c in itertools.product(rows, repeat=3):
            self.assertEqual(product(product(a, b), c), product(a, product(b, c)))
            self.assertEqual(product(product(a, b), c), product(a, b, c))

    def test_products_do_not_commute(self):
        a, b = Cell(3, (0, 1)), Cell(10, (0, 1, 7, 8))
        self.assertNotEqual(product(a, b), product(b, a))

    def test_the_unit_changes_nothing(self):
        for row in SMALL_CELLS:
            cell = Cell(*row)
            self.assertEqual(product(UNIT, cell), cell)
            self.assertEqual(product(cell, UNIT), cell)


class Point41Test(unittest.TestCase, Checks):
    def test_the_sequence_of_a_product(self):
        for one, other in itertools.product(FEW, repeat=2):
            modulus, members = one
            sequence = RuledSequence(product(Cell(*one), Cell(*other)))
            behind = plain_ruled(*other, 100)
            wanted = sorted(a + modulus * t for a in members for t in behind)
            for n, x in enumerate(wanted[:80]):
                self.same(sequence.member(n), x)
            k = len(members)
            for n, t in enumerate(behind):
                for i in range(k):
                    self.same(sequence.member(i + k * n), members[i] + modulus * t)

    def test_great_numbers(self):
        for one, other in itertools.product(FEW[::3], repeat=2):
            sequence = RuledSequence(product(Cell(*one), Cell(*other)))
            behind = RuledSequence(Cell(*other))
            k = len(one[1])
            for m in GREAT_NUMBERS:
                for i in range(k):
                    self.same(sequence.member(i + k * m), one[1][i] + one[0] * behind.member(m))


class Point42Test(unittest.TestCase, Checks):
    def test_coordinates_and_members(self):
        for length in range(4):
            for rows in itertools.product(FEW[::3], repeat=length):
                stack = Stack(*[Cell(*row) for row in rows])
                numbers = []
                for x in range(150):
                    self.same(stack.coordinates(x), plain_coordinates(rows, x))
                    self.same(stack.contains(x), in_plain_stack(rows, x))
                    self.same(stack.rank(x), len(numbers))
                    if in_plain_stack(rows, x):
                        self.same(stack.member(len(numbers)), x)
                        numbers.append(x)
                self.assertEqual(list(itertools.islice(stack.walk(), len(numbers))), numbers)

    def test_great_numbers(self):
        rows = [SMALL_CELLS[8], SMALL_CELLS[3], SMALL_CELLS[11]] * 10
        stack = Stack(*[Cell(*row) for row in rows])
        for x in GREAT_NUMBERS:
            self.same(stack.coordinates(x), plain_coordinates(rows, x))
            self.same(stack.contains(x), in_plain_stack(rows, x))

    def test_the_greatest_start(self):
        self.same(Stack().greatest, 0)
        for length in (1, 2, 3):
            for rows in itertools.product(FEW[::3], repeat=length):
                cells = [Cell(*row) for row in rows]
                self.same(Stack(*cells).greatest, product(*cells).greatest)

    def test_it_is_the_greedy_sequence(self):
        rows = [(3, (0, 2)), (10, (1, 2, 8, 9))]
        cell = product(*[Cell(*row) for row in rows])
        greedy = plain_greedy(cell.members, 400)
        self.assertEqual([x for x in range(401) if in_plain_stack(rows, x)], greedy)
        self.assertEqual(list(itertools.islice(Stack(*[Cell(*row) for row in rows]).walk(), len(greedy))), greedy)


class Point43Test(unittest.TestCase, Checks):
    def check(self, rows, stack, x):
        """The composed pair agrees with the definition and with what the point says of it."""
        pair = stack.composed_pair(x)
        wanted = plain_composed_pair(rows, x)
        if wanted is None:
            self.assertIsNone(pair)
            self.assertLess(x, stack.greatest)
            self.same(stack.contains(x), False)
            return
        self.same(pair, wanted)
        y, z = pair
        self.assertTrue(y <= z and 2 * z - y == x)
        self.assertTrue(in_plain_stack(rows, y) and in_plain_stack(rows, z))
        self.assertEqual(y == z, in_plain_stack(rows, x))

    def test_small_numbers(self):
        for length in range(4):
            for rows in itertools.product(FEW[::2], repeat=length):
                stack = Stack(*[Cell(*row) for row in rows])
                for x in range(0, 120 if length < 3 else 60):
                    self.check(rows, stack, x)

    def test_every_number_behind_the_greatest_start(self):
        for rows in itertools.product(FEW, repeat=2):
            stack = Stack(*[Cell(*row) for row in rows])
            for x in range(stack.greatest, stack.greatest + 60):
                self.assertIsNotNone(stack.composed_pair(x))

    def test_numbers_without_a_pair(self):
        self.assertIsNone(Stack(Cell(10, (0, 1, 7, 8))).composed_pair(3))
        self.assertIsNone(Stack(Cell(3, (0, 1)), Cell(10, (0, 1, 7, 8))).composed_pair(12))
        self.assertEqual(Stack(Cell(10, (0, 1, 7, 8))).composed_pair(13), (1, 7))

    def test_great_numbers(self):
        rows = [SMALL_CELLS[8], SMALL_CELLS[3], SMALL_CELLS[11], SMALL_CELLS[9]] * 5
        stack = Stack(*[Cell(*row) for row in rows])
        for number in GREAT_NUMBERS:
            for x in range(number, number + 12):
                self.check(rows, stack, x)
        high = rows * 5
        stack = Stack(*[Cell(*row) for row in high])
        for number in [stack.greatest + x for x in (-1, 0, 1, 2, 10 ** 59)]:
            self.check(high, stack, number)


class Point44Test(unittest.TestCase, Checks):
    def test_factorizations(self):
        products = [plain_product(one, other) for one, other in itertools.product(FEW, repeat=2)]
        for row in {*SMALL_CELLS, *products}:
            cell = Cell(*row)
            found = [(row_of(left), row_of(right)) for left, right in factorizations(cell)]
            self.assertEqual(found, plain_factorizations(row))
            self.same(is_irreducible(cell), row[0] > 1 and not found)
            for left, right in factorizations(cell):
                self.assertEqual(product(left, right), cell)
                self.same(left_quotient(cell, right), left)
                self.same(right_quotient(cell, left), right)

    def test_quotients_by_the_definition(self):
        cells = [Cell(*row) for row in SMALL_CELLS]
        # A quotient is one of these cells, or one with a modulus up to 10.
        rows = {*SMALL_CELLS, *[(n, members) for n in (1, 3, 9, 10) for members in plain_cells(n)]}
        others = [Cell(*row) for row in sorted(rows)]
        for cell, factor in itertools.product(cells, repeat=2):
            left = [other for other in others if product(other, factor) == cell]
            right = [other for other in others if product(factor, other) == cell]
            self.assertEqual([left_quotient(cell, factor)], left or [None])
            self.assertEqual([right_quotient(cell, factor)], right or [None])

    def test_chain(self):
        cells = [Cell(*row) for row in FEW]
        for parts in itertools.product(cells[::2], repeat=3):
            cell = product(*parts)
            found = chain(cell)
            self.assertEqual(product(*found), cell)
            for part in found:
                self.same(is_irreducible(part), True)
            wanted = []
            rest = row_of(cell)
            while plain_factorizations(rest):
                left, rest = plain_factorizations(rest)[0]
                wanted.append(left)
            if rest[0] > 1:
                wanted.append(rest)
            self.assertEqual([row_of(part) for part in found], wanted)

    def test_the_left_factor_with_the_least_modulus_is_irreducible(self):
        for one, other in itertools.product(FEW, repeat=2):
            for left, _ in itertools.islice(factorizations(product(Cell(*one), Cell(*other))), 1):
                self.same(is_irreducible(left), True)


class Point45Test(unittest.TestCase, Checks):
    def test_products_of_the_base(self):
        for e in range(9):
            self.same(power(Cell.base(), e), Cell.base(digits=e))
            self.assertEqual(Cell.base(digits=e).members, tuple(plain_base(3 ** e)))

    def test_the_base_on_the_right_changes_no_sequence(self):
        for row in SMALL_CELLS:
            cell = Cell(*row)
            for e in (1, 2):
                sequence = RuledSequence(product(cell, Cell.base(digits=e)))
                for n in [*range(100), *GREAT_NUMBERS]:
                    self.same(sequence.member(n), RuledSequence(cell).member(n))

    def test_other_factors_on_the_right_change_it(self):
        base = plain_base(3000)
        for one, other in itertools.product(FEW, repeat=2):
            cell = product(Cell(*one), Cell(*other))
            same = plain_ruled(*row_of(cell), 2000) == plain_ruled(*one, 2000)
            is_base = plain_ruled(*other, 2000) == [x for x in base if x < 2000]
            self.assertEqual(same, is_base)


if __name__ == "__main__":
    unittest.main()
