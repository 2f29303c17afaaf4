"""The interface of cells.py: ordinary values, edges and wrong values."""

import unittest

from tests.support import HUGE, SMALL_CELLS, Checks, Thing, not_integers, not_numbers, plain_base
from triplefree.cells import Cell
from triplefree.errors import InvalidMembers, InvalidModulus, InvalidNumber, IsMember, NotFree, NotServed

TEN = (10, (0, 1, 7, 8))


def makers():
    """What examines a modulus and members."""
    return (Cell, Cell.violation)


class ConstructorTest(unittest.TestCase, Checks):
    def test_class_values(self):
        self.assertEqual((Cell.MAX_MODULUS, Cell.MAX_MEMBERS), (20000, 256))

    def test_cells(self):
        for modulus, members in SMALL_CELLS:
            for given in (members, list(members)):
                cell = Cell(modulus, given)
                self.same(cell.modulus, modulus)
                self.same(cell.members, members)
                self.same(cell.size, len(members))
                self.same(cell.greatest, members[-1])
                self.assertIsNone(Cell.violation(modulus, given))

    def test_wrong_moduli(self):
        for value in [*not_numbers(), 0, 20001, HUGE]:
            for call in makers():
                self.fails(InvalidModulus, {"given": value}, call, value, (0, 1))
                # The modulus is examined first, whatever the members are.
                self.fails(InvalidModulus, {"given": value}, call, value, None)
                self.fails(InvalidModulus, {"given": value}, call, value, (2, "1"))

    def test_members_that_are_no_tuple_or_list(self):
        values = [value for value in not_integers() if not isinstance(value, (tuple, list)) or not value]
        values += [0, 1, -1, "01", range(2), {0: 1, 1: 2}, {0, 1}, iter((0, 1)), Cell(3, (0, 1))]
        for value in values:
            for call in makers():
                self.fails(InvalidMembers, {"index": None}, call, 3, value)

    def test_the_number_of_members(self):
        for call in makers():
            self.fails(InvalidMembers, {"index": None}, call, 20000, tuple(range(257)))
            self.fails(InvalidMembers, {"index": None}, call, 20000, [None] * 257)
            self.fails(InvalidMembers, {"index": None}, call, 3, [])
        self.fails(NotFree, {"low": 0, "middle": 1, "high": 2}, Cell, 20000, tuple(range(256)))
        self.assertEqual(Cell.violation(20000, list(range(256))), ("free", 0, 1, 2))

    def test_wrong_items(self):
        for call in makers():
            for value in [*not_numbers(), 10, 11, 20000, HUGE]:
                self.fails(InvalidMembers, {"index": 0}, call, 10, (value,))
                self.fails(InvalidMembers, {"index": 1}, call, 10, [0, value, 7, 8])
                self.fails(InvalidMembers, {"index": 3}, call, 10, (0, 1, 7, value))
                self.fails(InvalidMembers, {"index": 1}, call, 10, (0, value, value, None))
            self.fails(InvalidMembers, {"index": 1}, call, 10, (0, 0, 1))
            self.fails(InvalidMembers, {"index": 2}, call, 10, (0, 7, 1, 8))
            self.fails(InvalidMembers, {"index": 0}, call, 1, (1,))

    def test_wrong_items_come_before_violations(self):
        for call in makers():
            self.fails(InvalidMembers, {"index": 3}, call, 10, (0, 1, 2, 2))
            self.fails(InvalidMembers, {"index": 1}, call, 10, (0, 10))

    def test_not_free(self):
        rows = [
            (8, (0, 3, 4, 7), (0, 4, 0)),
            (2, (0, 1), (0, 1, 0)),
            (3, (0, 1, 2), (0, 1, 2)),
            (5, (0, 1, 3), (0, 3, 1)),
            (9, (0, 1, 3, 6), (0, 3, 6)),
            (9, (0, 3, 6), (0, 3, 6)),
            (20000, (0, 10000), (0, 10000, 0)),
            (20000, (3, 9999, 19995), (3, 9999, 19995)),
            (19999, (0, 1, 19998), (1, 0, 19998)),
            (20000, (1, 7, 10007), (7, 10007, 7)),
        ]
        for modulus, members, (low, middle, high) in rows:
            self.fails(NotFree, {"low": low, "middle": middle, "high": high}, Cell, modulus, members)
            self.same(Cell.violation(modulus, members), ("free", low, middle, high))

    def test_not_served(self):
        rows = [
            (2, (0,), 1),
            (5, (0, 1), 3),
            (10, (0, 1), 3),
            (4, (0, 3), 1),
            (4, (0, 1), 3),
            (9, (0, 1, 3), 4),
            (20000, (0,), 1),
            (20000, (19999,), 0),
            (20000, (0, 1), 3),
        ]
        for modulus, members, remainder in rows:
            self.fails(NotServed, {"remainder": remainder}, Cell, modulus, members)
            self.same(Cell.violation(modulus, members), ("served", remainder))

    def test_a_triple_comes_before_a_remainder(self):
        self.fails(NotFree, {"low": 0, "middle": 1, "high": 2}, Cell, 20000, (0, 1, 2))

    def test_a_list_is_not_kept(self):
        members = [0, 1, 7, 8]
        cell = Cell(10, members)
        self.assertIsNone(Cell.violation(10, members))
        self.assertEqual(members, [0, 1, 7, 8])
        members[0] = 5
        members.append(9)
        self.assertEqual(cell.members, (0, 1, 7, 8))
        self.same(cell.has(0), True)
        self.same(cell.has(9), False)
        self.assertEqual(cell, Cell(*TEN))
        self.assertEqual(str(cell), "10 : 0 1 7 8")


class QuestionsTest(unittest.TestCase, Checks):
    def test_has(self):
        for modulus, members in SMALL_CELLS:
            for remainder in range(modulus):
                self.same(Cell(modulus, members).has(remainder), remainder in members)

    def test_serving_pair_and_carry(self):
        cell = Cell(*TEN)
        rows = {2: (0, 1, 0), 3: (1, 7, 1), 4: (0, 7, 1), 5: (1, 8, 1), 6: (0, 8, 1), 9: (7, 8, 0)}
        for remainder, (y, z, carry) in rows.items():
            self.same(cell.serving_pair(remainder), (y, z))
            self.same(cell.carry(remainder), carry)

    def test_members_are_not_served(self):
        for modulus, members in SMALL_CELLS:
            cell = Cell(modulus, members)
            for remainder in members:
                self.fails(IsMember, {"given": remainder}, cell.serving_pair, remainder)
                self.fails(IsMember, {"given": remainder}, cell.carry, remainder)

    def test_wrong_remainders(self):
        for modulus, members in SMALL_CELLS:
            cell = Cell(modulus, members)
            for value in [*not_numbers(), modulus, modulus + 1, HUGE]:
                for call in (cell.has, cell.serving_pair, cell.carry):
                    self.fails(InvalidNumber, {"given": value}, call, value)


class BaseTest(unittest.TestCase, Checks):
    def test_base_cells(self):
        self.assertEqual(str(Cell.base()), "3 : 0 1")
        for digits in range(9):
            cell = Cell.base(digits=digits)
            self.assertIs(cell.__class__, Cell)
            self.same(cell.modulus, 3 ** digits)
            self.same(cell.members, tuple(plain_base(3 ** digits)))
        self.assertEqual(Cell.base(), Cell.base(digits=1))
        self.assertEqual(Cell.base(digits=8).size, 256)

    def test_wrong_digits(self):
        for value in [*not_numbers(), 9, 10, HUGE]:
            self.fails(InvalidNumber, {"given": value}, Cell.base, digits=value)

    def test_digits_are_passed_by_name(self):
        with self.assertRaises(TypeError):
            Cell.base(2)

    def test_subclass(self):
        class Special(Cell):
            pass

        self.assertIs(Special.base(digits=2).__class__, Special)
        self.assertEqual(Special.base(digits=2), Cell.base(digits=2))


class EqualityTest(unittest.TestCase):
    def test_equal_cells(self):
        for one in SMALL_CELLS:
            for other in SMALL_CELLS:
                self.assertEqual(Cell(*one) == Cell(other[0], list(other[1])), one == other)
                self.assertEqual(Cell(*one) != Cell(*other), one != other)

    def test_nothing_else_is_equal(self):
        cell = Cell(*TEN)
        for other in (None, TEN, 10, (0, 1, 7, 8), "10 : 0 1 7 8", object(), True):
            self.assertFalse(cell == other)
            self.assertTrue(cell != other)
        self.assertFalse(cell == Thing())

    def test_str(self):
        self.assertEqual(str(Cell(*TEN)), "10 : 0 1 7 8")
        self.assertEqual(str(Cell(1, (0,))), "1 : 0")
        self.assertEqual(str(Cell(3, [0, 2])), "3 : 0 2")


class ByNameTest(unittest.TestCase, Checks):
    def test_calls_by_name(self):
        cell = Cell(members=(0, 1, 7, 8), modulus=10)
        self.assertEqual(cell, Cell(*TEN))
        self.same(cell.has(remainder=7), True)
        self.same(cell.serving_pair(remainder=2), (0, 1))
        self.same(cell.carry(remainder=3), 1)
        self.same(Cell.violation(members=(0, 1), modulus=2), ("free", 0, 1, 0))


if __name__ == "__main__":
    unittest.main()
