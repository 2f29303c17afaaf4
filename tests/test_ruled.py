"""The interface of ruled.py: ordinary values, edges and wrong values."""

import itertools
import unittest

from tests.support import GREAT_NUMBERS, HUGE, SMALL_CELLS, Checks, in_plain_ruled, not_numbers, plain_pairs, plain_ruled
from triplefree.cells import Cell
from triplefree.errors import InvalidCell, InvalidNumber, IsMember, NotCovered, TooLarge
from triplefree.ruled import RuledSequence, ShiftedSequence

LIMIT = 400
SHIFTS = (0, 1, 5, 40)
BASE = RuledSequence(Cell.base())
TEN = RuledSequence(Cell(10, (0, 1, 7, 8)))


def sequences():
    """Each small sequence with its members below a limit: as it is, and shifted."""
    for modulus, members in SMALL_CELLS:
        cell = Cell(modulus, members)
        numbers = plain_ruled(modulus, members, 4 * LIMIT)
        yield RuledSequence(cell), numbers, 0
        for shift in SHIFTS:
            yield ShiftedSequence(cell, shift=shift), [x + shift for x in numbers], shift


def number_methods(sequence):
    """The methods with one number that answer at once."""
    return (
        sequence.member,
        sequence.rank,
        sequence.contains,
        sequence.next_member,
        sequence.last_member,
        sequence.cover,
        sequence.gap,
    )


class ExamplesTest(unittest.TestCase):
    def test_examples_of_the_interface(self):
        self.assertEqual(BASE.member(5), 10)
        self.assertEqual(BASE.cover(7), (1, 4))
        self.assertEqual(TEN.cover(23), (11, 17))
        self.assertEqual(list(TEN.uncovered()), [3, 4, 5, 6])


class ConstructorTest(unittest.TestCase, Checks):
    def test_wrong_cells(self):
        values = [*not_numbers(), 0, 3, (3, (0, 1)), "3 : 0 1", BASE, Cell]
        for value in values:
            for made in (RuledSequence, ShiftedSequence):
                self.fails(InvalidCell, {"part": "cell"}, made, value)
            # The cell is examined first.
            self.fails(InvalidCell, {"part": "cell"}, ShiftedSequence, value, shift=-1)

    def test_wrong_shifts(self):
        for value in not_numbers():
            self.fails(InvalidNumber, {"given": value}, ShiftedSequence, Cell.base(), shift=value)

    def test_the_shift_is_passed_by_name(self):
        with self.assertRaises(TypeError):
            ShiftedSequence(Cell.base(), 1)

    def test_properties(self):
        for modulus, members in SMALL_CELLS:
            cell = Cell(modulus, members)
            self.assertIs(RuledSequence(cell).cell, cell)
            self.assertIs(ShiftedSequence(cell).cell, cell)
            self.same(ShiftedSequence(cell).shift, 0)
            self.same(ShiftedSequence(cell, shift=HUGE).shift, HUGE)

    def test_len(self):
        for modulus, members in SMALL_CELLS:
            self.assertEqual(len(RuledSequence(Cell(modulus, members))), len(members))
            self.assertEqual(len(ShiftedSequence(Cell(modulus, members), shift=7)), len(members))
        self.assertEqual(len(RuledSequence(Cell.base(digits=8))), 256)

    def test_a_shifted_sequence_is_a_ruled_sequence(self):
        self.assertEqual(ShiftedSequence.__bases__, (RuledSequence,))


class MembersTest(unittest.TestCase, Checks):
    def test_small_members(self):
        for sequence, members, shift in sequences():
            for number, x in enumerate(members):
                self.same(sequence.member(number), x)
            self.assertEqual(list(itertools.islice(sequence.walk(), len(members))), members)

    def test_contains_rank_next_and_last(self):
        for sequence, members, shift in sequences():
            present = set(members)
            for x in range(LIMIT):
                self.same(sequence.contains(x), x in present)
                rank = len([y for y in members if y < x])
                self.same(sequence.rank(x), rank)
                self.same(sequence.next_member(x), members[rank + (x in present)])
                if rank == 0 and x not in present:
                    self.assertIsNone(sequence.last_member(x))
                else:
                    self.same(sequence.last_member(x), members[rank - 1 + (x in present)])

    def test_great_members(self):
        for modulus, members in SMALL_CELLS + [(3 ** 8, Cell.base(digits=8).members)]:
            for shift in (None, 12345, 10 ** 59):
                moved = shift or 0
                cell = Cell(modulus, members)
                sequence = RuledSequence(cell) if shift is None else ShiftedSequence(cell, shift=shift)
                for number in GREAT_NUMBERS:
                    x = sequence.member(number)
                    self.assertTrue(in_plain_ruled(modulus, members, x - moved))
                    self.assertEqual(sequence.rank(x), number)
                    self.assertEqual(sequence.rank(x + 1), number + 1)
                    self.same(sequence.contains(x), True)
                    self.assertEqual(sequence.last_member(x), x)
                    self.assertEqual(sequence.next_member(x - 1), x)
                    self.assertEqual(sequence.next_member(x), sequence.member(number + 1))
                    self.assertEqual(sequence.last_member(x - 1), sequence.member(number - 1))
                    self.assertEqual(next(sequence.walk(number)), x)

    def test_great_numbers(self):
        for modulus, members in SMALL_CELLS:
            sequence = RuledSequence(Cell(modulus, members))
            for x in GREAT_NUMBERS:
                self.same(sequence.contains(x), in_plain_ruled(modulus, members, x))
                later = sequence.next_member(x)
                self.assertGreater(later, x)
                self.assertEqual(sequence.rank(later), sequence.rank(x + 1))
                self.assertLessEqual(sequence.last_member(x), x)
                self.assertEqual(sequence.next_member(sequence.last_member(x)), later)

    def test_numbers_of_six_hundred_digits(self):
        for sequence in (TEN, ShiftedSequence(TEN.cell, shift=HUGE)):
            x = sequence.member(HUGE)
            self.assertEqual(sequence.rank(x), HUGE)
            self.assertEqual(sequence.last_member(HUGE), sequence.member(sequence.rank(HUGE + 1) - 1)
                             if sequence.rank(HUGE + 1) else None)
            self.assertGreater(sequence.next_member(HUGE), HUGE)

    def test_walk(self):
        for sequence, members, shift in sequences():
            for start in (0, 1, 2, 3, 5, 11, 30):
                found = list(itertools.islice(sequence.walk(start), 20))
                self.assertEqual(found, [sequence.member(n) for n in range(start, start + 20)])
            self.assertEqual(next(sequence.walk()), members[0])
            self.assertEqual(next(sequence.walk(start=4)), sequence.member(4))
        for start in GREAT_NUMBERS:
            found = list(itertools.islice(TEN.walk(start), 20))
            self.assertEqual(found, [TEN.member(n) for n in range(start, start + 20)])

    def test_gap(self):
        for sequence, members, shift in sequences():
            for number in range(1, 60):
                self.same(sequence.gap(number), members[number] - members[number - 1])
            for number in GREAT_NUMBERS:
                self.same(sequence.gap(number), sequence.member(number) - sequence.member(number - 1))
            for value in [*not_numbers(), 0]:
                self.fails(InvalidNumber, {"given": value}, sequence.gap, value)


class WrongNumbersTest(unittest.TestCase, Checks):
    def test_wrong_numbers(self):
        for sequence in (BASE, TEN, ShiftedSequence(TEN.cell), ShiftedSequence(TEN.cell, shift=9)):
            for value in not_numbers():
                for call in number_methods(sequence):
                    self.fails(InvalidNumber, {"given": value}, call, value)
                self.fails(InvalidNumber, {"given": value}, sequence.check_cover, value, (0, 1))
                self.fails(InvalidNumber, {"given": value}, sequence.check_cover, value, None)
                self.fails_at_first_item(InvalidNumber, {"given": value}, sequence.walk, value)
                self.fails_at_first_item(InvalidNumber, {"given": value}, sequence.walk, start=value)


class CoverTest(unittest.TestCase, Checks):
    def test_errors_and_pairs(self):
        for sequence, members, shift in sequences():
            for x in range(LIMIT):
                pairs = plain_pairs([y for y in members if y < x][-200:], x) if x < 150 + shift else None
                if x in members:
                    self.fails(IsMember, {"given": x}, sequence.cover, x)
                elif x < shift or pairs == []:
                    self.fails(NotCovered, {"given": x}, sequence.cover, x)
                else:
                    y, z = sequence.cover(x)
                    self.assertTrue(y < z and 2 * z - y == x and y in members and z in members)
                    self.assertIs(sequence.cover(x).__class__, tuple)
                    self.same(sequence.check_cover(x, (y, z)), True)

    def test_check_cover_counts_all_pairs(self):
        for sequence in (TEN, ShiftedSequence(TEN.cell, shift=3), ShiftedSequence(TEN.cell)):
            members = [x for x in range(60) if sequence.contains(x)]
            for x in range(45):
                pairs = plain_pairs(members, x)
                for y, z in itertools.product(range(45), repeat=2):
                    self.same(sequence.check_cover(x, (y, z)), (y, z) in pairs)

    def test_check_cover_with_other_values(self):
        wrong = [(17, 11), (11, 17, 23), (11,), (), [11, 17], (-1, 11), (11, "17"), ("11", 17), (11, 17.0)]
        wrong += [(None, None), ((11, 17),), (11, [17]), "11", {11: 17}, (23, 23), (-HUGE, HUGE), (HUGE, HUGE)]
        for sequence in (TEN, ShiftedSequence(TEN.cell)):
            self.same(sequence.check_cover(23, (11, 17)), True)
            for pair in wrong + not_numbers():
                self.same(sequence.check_cover(23, pair), False)
            self.same(sequence.check_cover(2, (0, 1)), True)
            for pair in ((False, True), (0, True), (False, 1)):
                self.same(sequence.check_cover(2, pair), False)

    def test_shifted_numbers_below_the_shift(self):
        sequence = ShiftedSequence(TEN.cell, shift=10 ** 59)
        for x in (0, 7, 10 ** 59 - 1):
            self.fails(NotCovered, {"given": x}, sequence.cover, x)
            self.same(sequence.contains(x), False)
            self.same(sequence.check_cover(x, (0, 1)), False)
            self.same(sequence.rank(x), 0)
            self.same(sequence.next_member(x), 10 ** 59)
            self.assertIsNone(sequence.last_member(x))
        self.fails(IsMember, {"given": 10 ** 59}, sequence.cover, 10 ** 59)
        self.fails(NotCovered, {"given": 10 ** 59 + 3}, sequence.cover, 10 ** 59 + 3)
        self.assertEqual(sequence.cover(10 ** 59 + 23), (10 ** 59 + 11, 10 ** 59 + 17))

    def test_the_first_member_of_a_cell_may_be_greater_than_0(self):
        sequence = RuledSequence(Cell(10, (1, 2, 8, 9)))
        self.assertIsNone(sequence.last_member(0))
        self.assertEqual(sequence.last_member(1), 1)
        self.fails(NotCovered, {"given": 0}, sequence.cover, 0)
        self.assertEqual(list(sequence.uncovered()), [0, 4, 5, 6, 7])


class UncoveredTest(unittest.TestCase, Checks):
    def test_against_all_pairs(self):
        for sequence, members, shift in sequences():
            top = sequence.cell.greatest + shift
            rows = [x for x in range(top) if x not in members and not plain_pairs([y for y in members if y < x], x)]
            self.assertEqual(list(sequence.uncovered()), rows)

    def test_a_great_shift(self):
        found = itertools.islice(ShiftedSequence(TEN.cell, shift=HUGE).uncovered(), 1000)
        self.assertEqual(list(found), list(range(1000)))

    def test_a_great_cell(self):
        self.assertEqual(list(RuledSequence(Cell.base(digits=8)).uncovered()), [])


class TripledTest(unittest.TestCase, Checks):
    def test_tripled(self):
        for sequence, members, shift in sequences():
            tripled = sequence.tripled()
            self.assertIs(tripled.__class__, sequence.__class__)
            modulus = 3 * sequence.cell.modulus
            self.assertEqual(tripled.cell, Cell(modulus, [x - shift for x in members if x - shift < modulus]))
            if isinstance(sequence, ShiftedSequence):
                self.same(tripled.shift, shift)
            self.assertEqual(list(itertools.islice(tripled.walk(), 50)), members[:50])

    def test_too_large(self):
        great = Cell.base(digits=8)
        for made in (RuledSequence, ShiftedSequence):
            self.fails(TooLarge, {"limit": 256}, made(great).tripled)
            self.assertEqual(made(Cell.base(digits=7)).tripled().cell, great)
        cell = TEN.cell
        sequence = RuledSequence(cell)
        for _ in range(6):
            sequence = sequence.tripled()
        self.assertEqual((sequence.cell.modulus, sequence.cell.size), (7290, 256))
        self.fails(TooLarge, {"limit": 20000}, sequence.tripled)
        unit = RuledSequence(Cell(1, (0,)))
        for _ in range(8):
            unit = unit.tripled()
        self.assertEqual(unit.cell, great)


class EqualityTest(unittest.TestCase):
    def test_equal_sequences(self):
        for one in SMALL_CELLS:
            for other in SMALL_CELLS:
                self.assertEqual(RuledSequence(Cell(*one)) == RuledSequence(Cell(*other)), one == other)
                self.assertEqual(RuledSequence(Cell(*one)) != RuledSequence(Cell(*other)), one != other)

    def test_shifted_sequences(self):
        cell = TEN.cell
        self.assertTrue(ShiftedSequence(cell, shift=4) == ShiftedSequence(Cell(10, [0, 1, 7, 8]), shift=4))
        self.assertFalse(ShiftedSequence(cell, shift=4) == ShiftedSequence(cell, shift=5))
        self.assertFalse(ShiftedSequence(cell, shift=4) == ShiftedSequence(Cell.base(), shift=4))
        self.assertTrue(ShiftedSequence(cell) == ShiftedSequence(cell, shift=0))

    def test_shifted_and_other_sequences(self):
        one, other = RuledSequence(TEN.cell), ShiftedSequence(TEN.cell)
        self.assertFalse(one == other)
        self.assertFalse(other == one)
        self.assertTrue(one != other)
        self.assertFalse(RuledSequence.__eq__(one, other))

    def test_nothing_else_is_equal(self):
        for sequence in (TEN, ShiftedSequence(TEN.cell)):
            for other in (None, 10, TEN.cell, (10, (0, 1, 7, 8)), object(), True):
                self.assertFalse(sequence == other)
                self.assertTrue(sequence != other)


class ByNameTest(unittest.TestCase, Checks):
    def test_calls_by_name(self):
        for sequence in (RuledSequence(cell=TEN.cell), ShiftedSequence(shift=0, cell=TEN.cell)):
            self.same(sequence.member(number=5), 11)
            self.same(sequence.rank(x=11), 5)
            self.same(sequence.contains(x=11), True)
            self.same(sequence.next_member(x=11), 17)
            self.same(sequence.last_member(x=16), 11)
            self.same(sequence.cover(x=23), (11, 17))
            self.same(sequence.check_cover(pair=(11, 17), x=23), True)
            self.same(sequence.gap(number=6), 6)


if __name__ == "__main__":
    unittest.main()
