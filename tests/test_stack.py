"""The stacks of products.py: ordinary values, edges and wrong values."""

import itertools
import unittest

from tests.support import GREAT_NUMBERS, HUGE, SMALL_CELLS, Checks, Thing, not_integers, not_numbers
from tests.test_products import not_cells
from triplefree.cells import Cell
from triplefree.errors import InvalidCell, InvalidMembers, InvalidNumber, NothingToUndo, TooLarge
from triplefree.products import Stack, product
from triplefree.ruled import RuledSequence

BASE = Cell.base()
TEN = Cell(10, (0, 1, 7, 8))
UNIT = Cell(1, (0,))
HIGH = Cell(3, (1, 2))


def state(stack):
    """Everything that can be seen of a stack."""
    return (stack.cells, stack.modulus, stack.size, stack.greatest, len(stack), stack.member(100), stack.rank(1000))


class ConstructorTest(unittest.TestCase, Checks):
    def test_class_value(self):
        self.assertEqual(Stack.MAX_HEIGHT, 100)

    def test_example_of_the_interface(self):
        stack = Stack(BASE, TEN)
        self.same(stack.member(5), 22)
        self.same(stack.composed_pair(26), (24, 25))

    def test_properties(self):
        rows = [
            ((), 1, 1, 0),
            ((UNIT,), 1, 1, 0),
            ((BASE,), 3, 2, 1),
            ((HIGH,), 3, 2, 2),
            ((BASE, TEN), 30, 8, 25),
            ((TEN, BASE, HIGH), 90, 16, 78),
            ((TEN,) * 100, 10 ** 100, 4 ** 100, int("8" * 100)),
        ]
        for cells, modulus, size, greatest in rows:
            stack = Stack(*cells)
            self.same(stack.cells, cells)
            self.same(stack.modulus, modulus)
            self.same(stack.size, size)
            self.same(stack.greatest, greatest)
            self.assertEqual(len(stack), len(cells))

    def test_wrong_cells(self):
        for value in not_cells():
            self.fails(InvalidCell, {"part": 0}, Stack, value)
            self.fails(InvalidCell, {"part": 1}, Stack, BASE, value, None)
            # The kind of each argument is examined before their number.
            self.fails(InvalidCell, {"part": 100}, Stack, *[BASE] * 100, value)
            self.fails(InvalidCell, {"part": 0}, Stack, value, *[BASE] * 100)

    def test_the_height(self):
        self.assertEqual(len(Stack(*[BASE] * 100)), 100)
        for cell in (BASE, UNIT):
            self.fails(TooLarge, {"limit": 100}, Stack, *[cell] * 101)
            self.fails(TooLarge, {"limit": 100}, Stack, *[cell] * 150)

    def test_repeated(self):
        for count in (0, 1, 2, 99, 100):
            self.same(Stack.repeated(TEN, count).cells, (TEN,) * count)
        self.same(Stack.repeated(count=2, cell=BASE), Stack(BASE, BASE))

    def test_repeated_wrong(self):
        for value in not_cells():
            self.fails(InvalidCell, {"part": "cell"}, Stack.repeated, value, 2)
            self.fails(InvalidCell, {"part": "cell"}, Stack.repeated, value, -1)
        for value in not_numbers():
            self.fails(InvalidNumber, {"given": value}, Stack.repeated, BASE, value)
        for count in (101, 102, HUGE):
            for cell in (BASE, UNIT):
                self.fails(TooLarge, {"limit": 100}, Stack.repeated, cell, count)

    def test_repeated_keeps_the_class(self):
        class Pile(Stack):
            pass

        self.assertIs(Pile.repeated(BASE, 2).__class__, Pile)

    def test_fits(self):
        for value in ((), (BASE,), (BASE, TEN, UNIT), (TEN,) * 100):
            self.same(Stack.fits(value), True)
            self.same(Stack.fits(value=value), True)
        # An empty tuple, and a tuple with a cell, are among the values that are no cells.
        wrong = [value for value in not_cells() if not isinstance(value, tuple)]
        for value in [*wrong, (TEN,) * 101, [TEN], [], (TEN, None), (3,), (BASE, (TEN,)), (Thing(),), Stack(BASE)]:
            self.same(Stack.fits(value), False)
        self.same(Stack(BASE).fits((BASE,)), True)

    def test_equality(self):
        self.assertEqual(Stack(), Stack())
        self.assertEqual(Stack(BASE, TEN), Stack(Cell(3, (0, 1)), Cell(10, [0, 1, 7, 8])))
        self.assertNotEqual(Stack(BASE, TEN), Stack(TEN, BASE))
        self.assertNotEqual(Stack(BASE), Stack(BASE, BASE))
        self.assertNotEqual(Stack(BASE), Stack(BASE, UNIT))
        # The same members do not make two stacks equal.
        self.assertNotEqual(Stack(BASE, BASE), Stack(Cell.base(digits=2)))
        for value in (None, (BASE,), [BASE], BASE, 3, "", RuledSequence(BASE)):
            self.assertFalse(Stack(BASE) == value)
            self.assertTrue(Stack(BASE) != value)


class MembersTest(unittest.TestCase, Checks):
    def test_as_the_product_rules(self):
        for rows in itertools.product(SMALL_CELLS[1:12:3], repeat=2):
            cells = [Cell(*row) for row in rows]
            stack = Stack(*cells)
            sequence = RuledSequence(product(*cells))
            self.assertEqual(stack.greatest, sequence.cell.greatest)
            for x in [*range(250), *GREAT_NUMBERS]:
                self.same(stack.member(x), sequence.member(x))
                self.same(stack.rank(x), sequence.rank(x))
                self.same(stack.contains(x), sequence.contains(x))
            for start in (0, 1, 7, 100, 10 ** 59):
                numbers = list(itertools.islice(stack.walk(start), 60))
                self.assertEqual(numbers, list(itertools.islice(sequence.walk(start), 60)))

    def test_without_cells(self):
        stack = Stack()
        sequence = RuledSequence(UNIT)
        for x in [*range(100), *GREAT_NUMBERS]:
            self.same(stack.member(x), sequence.member(x))
            self.same(stack.rank(x), sequence.rank(x))
            self.same(stack.contains(x), sequence.contains(x))
            self.same(stack.coordinates(x), (x,))
            self.same(stack.number_of(x), x)

    def test_high_stacks(self):
        stack = Stack(*[TEN, BASE, HIGH] * 33, TEN)
        for number in [*range(50), *GREAT_NUMBERS, HUGE]:
            x = stack.member(number)
            self.same(stack.rank(x), number)
            self.same(stack.rank(x + 1), number + 1)
            self.same(stack.contains(x), True)
            self.same(stack.composed_pair(x), (x, x))
            self.same(next(stack.walk(number)), x)

    def test_walk_takes_the_cells_at_its_first_item(self):
        stack = Stack(BASE)
        walk = stack.walk(start=2)
        self.assertEqual(next(walk), 3)
        stack.push(TEN)
        self.assertEqual(list(itertools.islice(walk, 4)), [4, 9, 10, 12])
        self.assertEqual(list(itertools.islice(stack.walk(2), 4)), [3, 4, 21, 22])

    def test_wrong_numbers(self):
        for stack in (Stack(), Stack(BASE, TEN)):
            for value in not_numbers():
                for call in (stack.member, stack.rank, stack.contains, stack.coordinates, stack.composed_pair):
                    self.fails(InvalidNumber, {"given": value}, call, value)
                self.fails_at_first_item(InvalidNumber, {"given": value}, stack.walk, value)

    def test_by_name(self):
        stack = Stack(BASE, TEN)
        self.assertEqual(stack.member(number=5), 22)
        self.assertEqual(stack.rank(x=22), 5)
        self.same(stack.contains(x=22), True)
        self.assertEqual(stack.coordinates(x=22), (1, 7, 0))
        self.assertEqual(stack.composed_pair(x=26), (24, 25))
        self.assertEqual(next(stack.walk(start=5)), 22)


class CoordinatesTest(unittest.TestCase, Checks):
    def test_there_and_back(self):
        for cells in ((), (BASE,), (TEN, BASE), (BASE, UNIT, TEN), (TEN,) * 100):
            stack = Stack(*cells)
            for x in [*range(300), *GREAT_NUMBERS, HUGE]:
                parts = stack.coordinates(x)
                self.assertIs(parts.__class__, tuple)
                self.assertEqual(len(parts), len(cells) + 1)
                self.same(stack.number_of(*parts), x)

    def test_coordinates(self):
        self.assertEqual(Stack(BASE, TEN).coordinates(1234), (1, 1, 41))
        self.assertEqual(Stack(TEN, BASE).coordinates(1234), (4, 0, 41))
        self.assertEqual(Stack(TEN, TEN, TEN).coordinates(98765), (5, 6, 7, 98))

    def test_wrong_number_of_coordinates(self):
        for parts in ((), (1,), (1, 2), (1, 2, 3, 4), (None,), ("a", "b", "c", "d")):
            self.fails(InvalidMembers, {"index": None}, Stack(BASE, TEN).number_of, *parts)
        self.fails(InvalidMembers, {"index": None}, Stack().number_of)
        self.fails(InvalidMembers, {"index": None}, Stack().number_of, 0, 0)

    def test_wrong_coordinates(self):
        stack = Stack(BASE, TEN)
        for value in not_numbers():
            self.fails(InvalidMembers, {"index": 0}, stack.number_of, value, 10, -1)
            self.fails(InvalidMembers, {"index": 1}, stack.number_of, 2, value, -1)
            self.fails(InvalidMembers, {"index": 2}, stack.number_of, 2, 9, value)
            self.fails(InvalidMembers, {"index": 0}, Stack().number_of, value)
        for value in (3, 4, HUGE):
            self.fails(InvalidMembers, {"index": 0}, stack.number_of, value, 10, None)
        for value in (10, 11, HUGE):
            self.fails(InvalidMembers, {"index": 1}, stack.number_of, 0, value, None)
        self.same(stack.number_of(2, 9, HUGE), 29 + 30 * HUGE)


class ChangesTest(unittest.TestCase, Checks):
    def test_push_and_drop(self):
        stack = Stack()
        self.assertIsNone(stack.push(BASE))
        self.assertIsNone(stack.push(TEN, UNIT))
        self.assertEqual(stack, Stack(BASE, TEN, UNIT))
        self.assertIsNone(stack.push())
        self.assertEqual(len(stack), 3)
        self.assertIs(stack.drop(), UNIT)
        self.assertIs(stack.drop(), TEN)
        self.assertEqual(state(stack), state(Stack(BASE)))
        stack.push(HIGH)
        self.assertEqual(state(stack), state(Stack(BASE, HIGH)))
        self.assertIs(stack.drop(), HIGH)
        self.assertIs(stack.drop(), BASE)
        self.assertEqual(state(stack), state(Stack()))

    def test_returned_tuples_stay(self):
        stack = Stack(BASE)
        cells = stack.cells
        stack.push(TEN)
        self.assertEqual(cells, (BASE,))

    def test_drop_of_nothing(self):
        stack = Stack()
        self.fails(NothingToUndo, {}, stack.drop)
        self.assertEqual(state(stack), state(Stack()))
        stack.push(TEN)
        stack.drop()
        self.fails(NothingToUndo, {}, stack.drop)

    def test_push_of_no_cells(self):
        stack = Stack(BASE, TEN)
        before = state(stack)
        for value in [*not_cells(), *not_integers()]:
            self.fails(InvalidCell, {"part": 0}, stack.push, value)
            self.fails(InvalidCell, {"part": 1}, stack.push, BASE, value)
            self.fails(InvalidCell, {"part": 99}, stack.push, *[BASE] * 99, value)
            self.assertEqual(state(stack), before)

    def test_push_of_too_many(self):
        stack = Stack(*[BASE] * 98)
        before = state(stack)
        self.fails(TooLarge, {"limit": 100}, stack.push, BASE, BASE, BASE)
        self.fails(TooLarge, {"limit": 100}, stack.push, *[UNIT] * 101)
        self.assertEqual(state(stack), before)
        stack.push(BASE, TEN)
        self.assertEqual(len(stack), 100)
        self.fails(TooLarge, {"limit": 100}, stack.push, UNIT)
        self.assertIsNone(stack.push())
        self.assertEqual(len(stack), 100)


if __name__ == "__main__":
    unittest.main()
