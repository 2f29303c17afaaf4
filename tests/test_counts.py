"""The interface of counts.py: ordinary values, edges and wrong values."""

import itertools
import unittest

from tests.support import GREAT_NUMBERS, HUGE, SMALL_CELLS, Checks, in_plain_ruled, not_integers, not_numbers, plain_base
from tests.support import plain_ruled
from triplefree.cells import Cell
from triplefree.counts import BaseCounts, Counts
from triplefree.errors import InvalidCell, InvalidMembers, InvalidModulus, InvalidNumber, NotFree, NotServed
from triplefree.ruled import RuledSequence, ShiftedSequence

S = RuledSequence(Cell.base())
TEN = RuledSequence(Cell(10, (0, 1, 7, 8)))
LIMIT = 250


def counted():
    """The counts of each small sequence with its members below a limit: as it is, and shifted."""
    for modulus, members in SMALL_CELLS:
        cell = Cell(modulus, members)
        numbers = plain_ruled(modulus, members, 5 * LIMIT)
        yield Counts(RuledSequence(cell)), numbers
        for shift in (0, 1, 30):
            yield Counts(ShiftedSequence(cell, shift=shift)), [x + shift for x in numbers]


def plain_coverings(numbers, x):
    """The coverings of x among the members."""
    present = set(numbers)
    return [(y, (x + y) // 2) for y in numbers if y < x and (x + y) % 2 == 0 and (x + y) // 2 in present]


class ExamplesTest(unittest.TestCase):
    def test_examples_of_the_interface(self):
        counts = Counts(S)
        self.assertEqual(counts.count_in((0, 3), (2, 9)), 5)
        self.assertEqual(counts.sum_up_to(10), 27)
        self.assertEqual(counts.covering_count(5), 2)
        self.assertEqual(list(counts.coverings(5)), [(1, 3), (3, 4)])
        self.assertEqual(counts.coverings_up_to(6), 4)
        self.assertEqual(counts.gap_count(2, 7), 2)
        self.assertEqual(counts.first_gap(5), 4)
        self.assertEqual(counts.longest_gap(7), (5, 4))
        self.assertEqual(BaseCounts().readings(5), 2)
        self.assertEqual(BaseCounts().readings(4), 1)


class ConstructorTest(unittest.TestCase, Checks):
    def test_wrong_sequences(self):
        for value in [*not_numbers(), 0, Cell.base(), Counts(S), RuledSequence, (3, (0, 1))]:
            self.fails(InvalidCell, {"part": "sequence"}, Counts, value)

    def test_the_sequence(self):
        shifted = ShiftedSequence(TEN.cell, shift=5)
        self.assertIs(Counts(TEN).sequence, TEN)
        self.assertIs(Counts(shifted).sequence, shifted)

    def test_class_value(self):
        self.assertEqual(Counts.CARRIES, (-1, 0, 1))
        self.assertEqual(BaseCounts.CARRIES, (-1, 0, 1))

    def test_of_cell(self):
        for modulus, members in SMALL_CELLS:
            for given in (members, list(members)):
                counts = Counts.of_cell(modulus, given)
                self.assertIs(counts.__class__, Counts)
                self.assertIs(counts.sequence.__class__, RuledSequence)
                self.assertEqual(counts.sequence.cell, Cell(modulus, members))

    def test_of_cell_raises_the_errors_of_a_cell(self):
        for value in [*not_numbers(), 0, 20001]:
            self.fails(InvalidModulus, {"given": value}, Counts.of_cell, value, (0, 1))
        self.fails(InvalidMembers, {"index": None}, Counts.of_cell, 3, "01")
        self.fails(InvalidMembers, {"index": 1}, Counts.of_cell, 3, (0, True))
        self.fails(NotFree, {"low": 0, "middle": 4, "high": 0}, Counts.of_cell, 8, (0, 3, 4, 7))
        self.fails(NotServed, {"remainder": 1}, Counts.of_cell, 2, (0,))

    def test_base_sum(self):
        base = plain_base(500)
        for number in range(60):
            self.same(Counts.base_sum(number), sum(base[:number]))
            self.same(Counts(TEN).base_sum(number), sum(base[:number]))
        for value in not_numbers():
            self.fails(InvalidNumber, {"given": value}, Counts.base_sum, value)


class MembersTest(unittest.TestCase, Checks):
    def test_count_between(self):
        for counts, numbers in counted():
            for low, high in itertools.product(range(0, 100, 7), range(0, 100, 6)):
                wanted = len([x for x in numbers if low <= x <= high])
                self.same(counts.count_between(low, high), wanted)
            for x in range(60):
                self.same(counts.count_between(x, x), int(x in numbers))

    def test_count_between_great_numbers(self):
        counts = Counts(TEN)
        for number in GREAT_NUMBERS:
            low, high = TEN.member(number), TEN.member(number + 1000)
            self.same(counts.count_between(low, high), 1001)
            self.same(counts.count_between(low + 1, high - 1), 999)
            self.same(counts.count_between(high, low), 0)
            self.same(counts.count_between(0, high), number + 1001)

    def test_count_between_with_wrong_numbers(self):
        for value in not_numbers():
            self.fails(InvalidNumber, {"given": value}, Counts(TEN).count_between, value, 3)
            self.fails(InvalidNumber, {"given": value}, Counts(TEN).count_between, 3, value)
            self.fails(InvalidNumber, {"given": value}, Counts(TEN).count_between, value, "5")

    def test_count_in(self):
        rows = [
            (),
            ((0, 0),),
            ((5, 20), (0, 10)),
            ((0, 10), (10, 20)),
            ((0, 50), (3, 7), (3, 7), (60, 61)),
            ((30, 30), (7, 7), (8, 9), (31, 40)),
            ((3, 90), (0, 5), (80, 200)),
            ((0, 200), (199, 200), (0, 0)),
        ]
        for counts, numbers in counted():
            for row in rows:
                wanted = [x for x in numbers if any(low <= x <= high for low, high in row)]
                self.same(counts.count_in(*row), len(wanted))

    def test_count_in_great_intervals(self):
        counts = Counts(S)
        for number in GREAT_NUMBERS:
            x, y, z = S.member(number), S.member(number + 10), S.member(number + 20)
            self.same(counts.count_in((y, z), (x, y)), 21)
            self.same(counts.count_in((x, y), (x, z), (y, y)), 21)
            self.same(counts.count_in((z, z), (x, x)), 2)

    def test_count_in_with_wrong_intervals(self):
        wrong = [[0, 1], (1, 0), (0,), (0, 1, 2), (), (-1, 3), (0, "1"), (True, 3), (0, True), (0, 1.0), ((0, 1), 2)]
        for value in wrong + not_numbers():
            self.fails(InvalidMembers, {"index": 0}, Counts(S).count_in, value)
            self.fails(InvalidMembers, {"index": 2}, Counts(S).count_in, (0, 3), (2, 9), value, None)

    def test_sums(self):
        for counts, numbers in counted():
            for number in range(60):
                self.same(counts.sum_of_first(number), sum(numbers[:number]))
            for x in range(LIMIT):
                self.same(counts.sum_up_to(x), sum(y for y in numbers if y <= x))

    def test_great_sums(self):
        for counts, _ in counted():
            sequence = counts.sequence
            for number in GREAT_NUMBERS:
                more = [sequence.member(n) for n in range(number, number + 9)]
                self.same(counts.sum_of_first(number + 9), counts.sum_of_first(number) + sum(more))
                self.same(counts.sum_up_to(more[-1]), counts.sum_of_first(number + 9))
                self.same(counts.sum_up_to(more[-1] - 1), counts.sum_of_first(number + 8))

    def test_sums_by_name(self):
        counts = Counts(S)
        found = counts.sums_by_name(ten=10, none=0, four=4, x=3)
        self.same(found, {"ten": 27, "none": 0, "four": 8, "x": 4})
        self.assertEqual(list(found), ["ten", "none", "four", "x"])
        self.same(counts.sums_by_name(), {})
        found["ten"] = 0
        self.assertEqual(counts.sums_by_name(ten=10), {"ten": 27})
        for value in not_numbers():
            self.fails(InvalidNumber, {"given": value}, counts.sums_by_name, a=value)
            self.fails(InvalidNumber, {"given": value}, counts.sums_by_name, c=3, b=value, a="5")


class CoveringsTest(unittest.TestCase, Checks):
    def test_small_numbers(self):
        for counts, numbers in counted():
            total = 0
            for x in range(LIMIT):
                pairs = plain_coverings(numbers, x)
                total += len(pairs)
                self.same(counts.covering_count(x), len(pairs))
                self.assertEqual(list(counts.coverings(x)), pairs)
                self.same(counts.coverings_up_to(x), total)

    def test_coverings_are_tuples(self):
        for pair in Counts(ShiftedSequence(TEN.cell, shift=5)).coverings(28):
            self.assertIs(pair.__class__, tuple)

    def test_coverings_of_great_numbers_are_listed_at_once(self):
        for modulus, members in SMALL_CELLS + [(3 ** 8, Cell.base(digits=8).members)]:
            for shift in (0, 10 ** 58):
                counts = Counts(ShiftedSequence(Cell(modulus, members), shift=shift))
                for x in GREAT_NUMBERS:
                    count = counts.covering_count(x)
                    found = list(itertools.islice(counts.coverings(x), 50))
                    self.assertEqual(len(found), min(count, 50))
                    self.assertEqual(found, sorted(set(found)))
                    for y, z in found:
                        self.assertTrue(y < z and 2 * z - y == x)
                        self.assertTrue(in_plain_ruled(modulus, members, y - shift))
                        self.assertTrue(in_plain_ruled(modulus, members, z - shift))

    def test_the_first_covering_of_a_great_number(self):
        # The only pairs with a first number below 1000 are found by trying all of them.
        counts = Counts(TEN)
        for number in (10 ** 30 + 7, 3 ** 60 * 10 + 3, 12345678901234567890):
            small = [y for y in plain_ruled(10, (0, 1, 7, 8), 3000) if (number + y) % 2 == 0]
            small = [(y, (number + y) // 2) for y in small if TEN.contains((number + y) // 2)]
            listed = itertools.takewhile(lambda pair: pair[0] < 3000, counts.coverings(number))
            self.assertEqual(list(itertools.islice(listed, 100)), small[:100])

    def test_six_hundred_digits(self):
        counts = Counts(TEN)
        x = HUGE
        self.assertEqual(counts.coverings_up_to(x) - counts.coverings_up_to(x - 1), counts.covering_count(x))
        pair = next(counts.coverings(x))
        self.assertTrue(TEN.check_cover(x, pair))

    def test_wrong_numbers(self):
        for counts in (Counts(S), Counts(ShiftedSequence(TEN.cell, shift=5)), BaseCounts()):
            for value in not_numbers():
                for call in (counts.sum_of_first, counts.sum_up_to, counts.covering_count, counts.coverings_up_to):
                    self.fails(InvalidNumber, {"given": value}, call, value)
                self.fails_at_first_item(InvalidNumber, {"given": value}, counts.coverings, value)


class GapsTest(unittest.TestCase, Checks):
    def test_small_gaps(self):
        for counts, numbers in counted():
            gaps = [later - x for x, later in zip(numbers, numbers[1:])][:130]
            for number in range(0, len(gaps), 7):
                for length in range(0, 60):
                    self.same(counts.gap_count(length, number), gaps[:number].count(length))
                if number > 0:
                    longest = max(gaps[:number])
                    self.same(counts.longest_gap(number), (longest, gaps.index(longest) + 1))
            for length in range(max(gaps) + 1):
                self.same(counts.first_gap(length), min(n for n, gap in enumerate(gaps, 1) if gap >= length))

    def test_great_gaps(self):
        for counts, numbers in counted():
            sequence = counts.sequence
            size = len(sequence)
            for t in (20, 100, 190):
                place = size << t
                length = sequence.gap(place)
                self.same(counts.first_gap(length), place)
                self.same(counts.first_gap(length - 1), place)
                self.same(counts.first_gap(length + 1), 2 * place)
                self.same(counts.longest_gap(place), (length, place))
                self.same(counts.longest_gap(2 * place - 1), (length, place))
                self.same(counts.longest_gap(place - 1), (sequence.gap(place // 2), place // 2))
                self.same(counts.gap_count(length, place - 1), 0)
                self.same(counts.gap_count(length, place), 1)
                self.same(counts.gap_count(length, 3 * place - 1), 1)
                self.same(counts.gap_count(length, 3 * place), 2)
                self.same(counts.gap_count(length, 1000 * place), 500)
                self.same(counts.gap_count(length + 1, 1000 * place), 0)

    def test_gaps_in_front_of_the_first_block(self):
        # The members 0, 3, 4, 7 of the sequence 0, 3, 4, 7, 9, 12, ..
        counts = Counts.of_cell(9, (0, 3, 4, 7))
        self.assertEqual(counts.longest_gap(1), (3, 1))
        self.assertEqual(counts.longest_gap(4), (3, 1))
        self.assertEqual(counts.first_gap(0), 1)
        self.assertEqual(counts.first_gap(4), 8)
        self.assertEqual(counts.gap_count(3, 1), 1)
        self.assertEqual(counts.gap_count(0, 100), 0)
        self.assertEqual(counts.gap_count(3, 0), 0)
        # Gap number 4 has the length 2 and so has gap number 12.
        self.assertEqual(counts.gap_count(2, 12), 2)

    def test_a_length_of_both_kinds(self):
        # The gaps of the cell and those between its blocks may have the same length.
        counts = Counts.of_cell(3, (1, 2))
        gaps = [counts.sequence.gap(n) for n in range(1, 200)]
        self.assertEqual([counts.gap_count(length, 199) for length in range(6)], [gaps.count(n) for n in range(6)])
        nine = Counts.of_cell(9, (0, 2, 3, 5))
        gaps = [nine.sequence.gap(n) for n in range(1, 200)]
        self.assertEqual([nine.gap_count(length, 199) for length in range(40)], [gaps.count(n) for n in range(40)])

    def test_wrong_numbers(self):
        for counts in (Counts(S), BaseCounts()):
            for value in not_numbers():
                self.fails(InvalidNumber, {"given": value}, counts.gap_count, value, 5)
                self.fails(InvalidNumber, {"given": value}, counts.gap_count, 5, value)
                self.fails(InvalidNumber, {"given": value}, counts.gap_count, value, None)
                self.fails(InvalidNumber, {"given": value}, counts.first_gap, value)
                self.fails(InvalidNumber, {"given": value}, counts.longest_gap, value)
            self.fails(InvalidNumber, {"given": 0}, counts.longest_gap, 0)
        self.same(Counts(S).longest_gap(1), (1, 1))


class EqualityTest(unittest.TestCase):
    def test_equal_counts(self):
        for one in SMALL_CELLS:
            for other in SMALL_CELLS:
                self.assertEqual(Counts.of_cell(*one) == Counts(RuledSequence(Cell(*other))), one == other)
        shifted = ShiftedSequence(TEN.cell, shift=3)
        self.assertTrue(Counts(shifted) == Counts(ShiftedSequence(Cell(10, [0, 1, 7, 8]), shift=3)))
        self.assertFalse(Counts(shifted) == Counts(ShiftedSequence(TEN.cell, shift=4)))
        self.assertFalse(Counts(TEN) == Counts(ShiftedSequence(TEN.cell)))
        self.assertFalse(Counts(ShiftedSequence(TEN.cell)) == Counts(TEN))

    def test_the_classes_count(self):
        self.assertTrue(BaseCounts() == BaseCounts())
        self.assertFalse(BaseCounts() == Counts(S))
        self.assertFalse(Counts(S) == BaseCounts())
        self.assertTrue(Counts(S) != BaseCounts())

    def test_nothing_else_is_equal(self):
        for counts in (Counts(TEN), BaseCounts()):
            for other in [None, TEN, S, TEN.cell, object(), *not_integers()]:
                self.assertFalse(counts == other)
                self.assertTrue(counts != other)

    def test_counting_changes_nothing(self):
        one, other = Counts(TEN), Counts(TEN)
        list(one.coverings(500))
        one.covering_count(500)
        self.assertEqual(one, other)
        self.assertEqual(list(one.coverings(500)), list(other.coverings(500)))
        both = zip(one.coverings(501), one.coverings(777))
        self.assertEqual(list(both), list(zip(list(other.coverings(501)), list(other.coverings(777)))))


class BaseCountsTest(unittest.TestCase, Checks):
    def test_the_sequence(self):
        self.assertEqual(BaseCounts.__bases__, (Counts,))
        self.assertEqual(BaseCounts().sequence, S)
        with self.assertRaises(TypeError):
            BaseCounts(S)

    def test_readings(self):
        base = plain_base(1000)
        present = set(base)
        for m in range(500):
            wanted = len([y for y in base if y <= m and (m + y) % 2 == 0 and (m + y) // 2 in present])
            self.same(BaseCounts().readings(m), wanted)
            self.assertGreaterEqual(wanted, 1)

    def test_great_readings(self):
        counts = BaseCounts()
        for m in [*GREAT_NUMBERS, HUGE]:
            self.same(counts.readings(m), counts.covering_count(m) + in_plain_ruled(3, (0, 1), m))

    def test_wrong_numbers(self):
        for value in not_numbers():
            self.fails(InvalidNumber, {"given": value}, BaseCounts().readings, value)


class ByNameTest(unittest.TestCase, Checks):
    def test_calls_by_name(self):
        counts = Counts(sequence=S)
        self.assertEqual(Counts.of_cell(members=(0, 1), modulus=3), counts)
        self.same(Counts.base_sum(number=4), 8)
        self.same(counts.count_between(high=9, low=1), 4)
        self.same(counts.sum_of_first(number=4), 8)
        self.same(counts.sum_up_to(x=10), 27)
        self.same(counts.covering_count(x=5), 2)
        self.same(list(counts.coverings(x=5)), [(1, 3), (3, 4)])
        self.same(counts.coverings_up_to(x=6), 4)
        self.same(counts.gap_count(number=7, length=2), 2)
        self.same(counts.first_gap(length=5), 4)
        self.same(counts.longest_gap(number=7), (5, 4))
        self.same(BaseCounts().readings(m=5), 2)


if __name__ == "__main__":
    unittest.main()
