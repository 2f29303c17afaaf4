"""Points [30] to [35] against their definitions."""

import itertools
import unittest

from tests.support import GREAT_NUMBERS, SMALL_CELLS, Checks, in_plain_ruled, plain_base, plain_ruled, ternary_word
from triplefree.cells import Cell
from triplefree.counts import BaseCounts, Counts
from triplefree.ruled import RuledSequence, ShiftedSequence

SOME_CELLS = SMALL_CELLS[::2] + [SMALL_CELLS[-1]]


def plain_quotient_count(target):
    """The number of pairs y < z of B with 2 z - y = target, digit by digit from the last one, as in [32]."""
    if target < 0:
        return 0
    states = {(0, False): 1}
    for digit in reversed(ternary_word(target)):
        later = {}
        for (carry, less), count in states.items():
            for e, f in itertools.product((0, 1), repeat=2):
                value = 2 * f - e + carry
                if value % 3 == int(digit):
                    state = (value // 3, f > e if f != e else less)
                    later[state] = later.get(state, 0) + count
        states = later
    return states.get((0, True), 0)


def plain_quotients_up_to(limit):
    """The number of pairs y < z of B with 2 z - y <= limit, with one more comparison for each digit, as in [33]."""
    if limit < 0:
        return 0
    states = {(0, False, False): 1}
    for digit in reversed(ternary_word(limit)):
        later = {}
        for (carry, less, greater), count in states.items():
            for e, f in itertools.product((0, 1), repeat=2):
                value = 2 * f - e + carry
                found = value % 3
                state = (value // 3, f > e if f != e else less, found > int(digit) if found != int(digit) else greater)
                later[state] = later.get(state, 0) + count
        states = later
    return states.get((0, True, False), 0)


def plain_rank(x):
    """The number of members of B up to x."""
    word = ternary_word(x) if x >= 0 else ""
    front = word.split("2")[0]
    if x < 0:
        return 0
    if len(front) < len(word):
        return (int("0" + front, 2) + 1) * 2 ** (len(word) - len(front))
    return int(word, 2) + 1


def plain_covering_count(modulus, members, x):
    """The number of coverings of x, as in [31]."""
    quotient, remainder = divmod(x, modulus)
    total = 0
    for u, v in itertools.product(members, repeat=2):
        carry, rest = divmod(2 * v - u - remainder, modulus)
        if rest == 0:
            total += plain_quotient_count(quotient - carry)
            if u < v and in_plain_ruled(1, (0,), quotient - carry):
                total += 1
    return total


def plain_coverings_up_to(modulus, members, x):
    """The number of pairs y < z of members with 2 z - y <= x."""
    total = 0
    for u, v in itertools.product(members, repeat=2):
        limit = (x - 2 * v + u) // modulus
        total += plain_quotients_up_to(limit)
        if u < v:
            total += plain_rank(limit)
    return total


class PlainCountsTest(unittest.TestCase):
    def test_the_plain_counts_are_right(self):
        base = plain_base(700)
        pairs = [2 * z - y for y, z in itertools.combinations(base, 2)]
        for m in range(120):
            self.assertEqual(plain_quotient_count(m), pairs.count(m))
            self.assertEqual(plain_quotients_up_to(m), len([x for x in pairs if x <= m]))
            self.assertEqual(plain_rank(m), len([x for x in base if x <= m]))


class Point30Test(unittest.TestCase, Checks):
    def test_whole_blocks(self):
        for modulus, members in SMALL_CELLS:
            counts = Counts.of_cell(modulus, members)
            base = plain_base(3 ** 5)
            numbers = plain_ruled(modulus, members, modulus * 3 ** 5)
            for m in range(33):
                wanted = m * sum(members) + len(members) * modulus * sum(base[:m])
                self.assertEqual(wanted, sum(numbers[:len(members) * m]))
                self.same(counts.sum_of_first(len(members) * m), wanted)

    def test_binary_digits(self):
        for m in range(200):
            ones = [sum((n >> i) & 1 for n in range(m)) for i in range(10)]
            self.same(Counts.base_sum(m), sum(3 ** i * count for i, count in enumerate(ones)))

    def test_great_blocks(self):
        for m in GREAT_NUMBERS:
            total = 0
            for i in range(m.bit_length()):
                whole, rest = divmod(m, 2 ** (i + 1))
                total += 3 ** i * (whole * 2 ** i + max(0, rest - 2 ** i))
            self.same(Counts.base_sum(m), total)
            for modulus, members in SMALL_CELLS:
                wanted = m * sum(members) + len(members) * modulus * total
                self.same(Counts.of_cell(modulus, members).sum_of_first(len(members) * m), wanted)


class Point31Test(unittest.TestCase, Checks):
    def test_coverings_by_remainders_and_quotients(self):
        for modulus, members in SOME_CELLS:
            counts = Counts.of_cell(modulus, members)
            base = plain_base(200)
            for x in range(200):
                quotient, remainder = divmod(x, modulus)
                rows = []
                for u, v in itertools.product(members, repeat=2):
                    for carry in Counts.CARRIES:
                        if 2 * v - u == remainder + carry * modulus:
                            for low in [b for b in base if b <= quotient + 1]:
                                high, odd = divmod(quotient - carry + low, 2)
                                if odd == 0 and high in base and (low < high or low == high and u < v):
                                    rows.append((u + modulus * low, v + modulus * high))
                self.assertEqual(list(counts.coverings(x)), sorted(rows))

    def test_members_have_no_covering(self):
        for modulus, members in SMALL_CELLS:
            sequence = RuledSequence(Cell(modulus, members))
            for number in [*range(40), *GREAT_NUMBERS]:
                x = sequence.member(number)
                self.same(Counts(sequence).covering_count(x), 0)
                self.assertEqual(list(Counts(sequence).coverings(x)), [])

    def test_numbers_below_the_greatest_member(self):
        counts = Counts.of_cell(10, (0, 1, 7, 8))
        self.assertEqual([x for x in range(100) if counts.covering_count(x) == 0 and not counts.sequence.contains(x)],
                         [3, 4, 5, 6])

    def test_other_numbers_have_a_covering(self):
        for modulus, members in SMALL_CELLS:
            sequence = RuledSequence(Cell(modulus, members))
            counts = Counts(sequence)
            for number in [*range(members[-1], 150), *GREAT_NUMBERS]:
                if not sequence.contains(number):
                    self.assertGreaterEqual(counts.covering_count(number), 1)
                    self.assertEqual(next(counts.coverings(number))[0] < number, True)


class Point32Test(unittest.TestCase, Checks):
    def test_counts_of_great_numbers(self):
        for modulus, members in SOME_CELLS:
            counts = Counts.of_cell(modulus, members)
            for number in GREAT_NUMBERS:
                self.same(counts.covering_count(number), plain_covering_count(modulus, members, number))

    def test_readings_of_great_numbers(self):
        for m in GREAT_NUMBERS:
            self.same(BaseCounts().readings(m), plain_quotient_count(m) + in_plain_ruled(1, (0,), m))

    def test_all_coverings_of_great_numbers(self):
        for modulus, members in SMALL_CELLS:
            counts = Counts.of_cell(modulus, members)
            listed = 0
            for word in ("1" * 90 + "02", "1200000000" * 9, "2" + "0" * 95, "1" + "0" * 60 + "2" + "0" * 40, "1" * 99):
                for digit in range(0, modulus, 1 + modulus // 5):
                    x = int(word, 3) * modulus + digit
                    count = counts.covering_count(x)
                    self.assertEqual(count, plain_covering_count(modulus, members, x))
                    if count < 3000:
                        listed += 1
                        found = list(counts.coverings(x))
                        self.assertEqual(found, sorted(set(found)))
                        self.assertEqual(len(found), count)
                        self.assertTrue(all(counts.sequence.check_cover(x, pair) for pair in found))
            self.assertGreater(listed, 0)


class Point33Test(unittest.TestCase, Checks):
    def test_sum_of_the_numbers_of_coverings(self):
        for modulus, members in SMALL_CELLS:
            counts = Counts.of_cell(modulus, members)
            total = 0
            for x in range(150):
                total += counts.covering_count(x)
                self.same(counts.coverings_up_to(x), total)
            for x in GREAT_NUMBERS:
                before = counts.coverings_up_to(x - 3)
                more = [counts.covering_count(y) for y in (x - 2, x - 1, x)]
                self.same(counts.coverings_up_to(x), before + sum(more))

    def test_great_numbers(self):
        for modulus, members in SOME_CELLS:
            counts = Counts.of_cell(modulus, members)
            for x in GREAT_NUMBERS[::3]:
                self.same(counts.coverings_up_to(x), plain_coverings_up_to(modulus, members, x))


class Point34Test(unittest.TestCase, Checks):
    def test_the_first_gaps_of_whole_blocks(self):
        for modulus, members in SMALL_CELLS:
            counts = Counts.of_cell(modulus, members)
            k = len(members)
            steps = [later - a for a, later in zip(members, members[1:])]
            for blocks in (1, 2, 7, 32, 10 ** 50):
                wanted = {}
                for step in steps:
                    wanted[step] = wanted.get(step, 0) + blocks
                t = 0
                while 2 ** t <= blocks:
                    length = members[0] - members[-1] + modulus * (3 ** t + 1) // 2
                    wanted[length] = wanted.get(length, 0) + blocks // 2 ** t - blocks // 2 ** (t + 1)
                    t += 1
                self.assertEqual(sum(wanted.values()), k * blocks)
                for length, count in wanted.items():
                    self.same(counts.gap_count(length, k * blocks), count)
                for length in range(60):
                    self.same(counts.gap_count(length, k * blocks), wanted.get(length, 0))

    def test_gaps_of_every_size(self):
        for modulus, members in SMALL_CELLS:
            counts = Counts.of_cell(modulus, members)
            for length in GREAT_NUMBERS:
                number = counts.first_gap(length)
                self.assertGreaterEqual(counts.sequence.gap(number), length)
                self.assertLess(counts.longest_gap(number - 1)[0], length)
                self.assertEqual(counts.longest_gap(number), (counts.sequence.gap(number), number))


class Point35Test(unittest.TestCase, Checks):
    def test_shifted_sequences(self):
        for modulus, members in SOME_CELLS:
            plain = Counts.of_cell(modulus, members)
            for shift in (0, 1, 13, 10 ** 58):
                moved = Counts(ShiftedSequence(Cell(modulus, members), shift=shift))
                for x in [*range(0, 120, 7), *GREAT_NUMBERS[:6]]:
                    self.same(moved.sum_of_first(x), plain.sum_of_first(x) + shift * x)
                    self.same(moved.count_between(shift, x + shift), plain.count_between(0, x))
                    self.same(moved.covering_count(x + shift), plain.covering_count(x))
                    self.same(moved.coverings_up_to(x + shift), plain.coverings_up_to(x))
                    pairs = itertools.islice(zip(moved.coverings(x + shift), plain.coverings(x)), 30)
                    for (y, z), (low, high) in pairs:
                        self.assertEqual((y, z), (low + shift, high + shift))
                    self.same(moved.longest_gap(x + 1), plain.longest_gap(x + 1))
                    self.same(moved.first_gap(x), plain.first_gap(x))
                    self.same(moved.gap_count(x % 40, x), plain.gap_count(x % 40, x))

    def test_numbers_below_the_shift(self):
        moved = Counts(ShiftedSequence(Cell.base(), shift=10 ** 58))
        for x in (0, 5, 10 ** 58 - 1):
            self.same(moved.covering_count(x), 0)
            self.assertEqual(list(moved.coverings(x)), [])
            self.same(moved.coverings_up_to(x), 0)
            self.same(moved.sum_up_to(x), 0)
            self.same(moved.count_between(0, x), 0)
        self.same(moved.sum_up_to(10 ** 58), 10 ** 58)
        self.same(moved.count_in((0, 10 ** 58)), 1)


if __name__ == "__main__":
    unittest.main()
