"""Points [21] to [24] against their definitions."""

import itertools
import unittest

from tests.support import (
    GREAT_NUMBERS,
    SMALL_CELLS,
    Checks,
    in_plain_ruled,
    plain_base,
    plain_greedy,
    plain_pairs,
    plain_ruled,
    plain_servers,
    ternary_word,
)
from triplefree.cells import Cell
from triplefree.errors import IsMember, NotCovered
from triplefree.greedy import GreedySequence
from triplefree.ruled import RuledSequence, ShiftedSequence


def plain_plain_pair(m):
    """The plain pair of [3], digit by digit."""
    y, z = 0, 0
    for digit in ternary_word(m):
        e, f = {"0": (0, 0), "1": (1, 1), "2": (0, 1)}[digit]
        y, z = 3 * y + e, 3 * z + f
    return y, z


def plain_ruling_pair(modulus, members, x):
    """The ruling pair of [22], or None, for a number that is not a member."""
    if x < members[-1]:
        return min(plain_pairs(members, x), default=None)
    quotient, remainder = divmod(x, modulus)
    if remainder in members:
        low, high = plain_plain_pair(quotient)
        return remainder + modulus * low, remainder + modulus * high
    carry, y, z = plain_servers(modulus, members, remainder)[0]
    low, high = plain_plain_pair(quotient - carry)
    return y + modulus * low, z + modulus * high


class Point21Test(unittest.TestCase, Checks):
    def test_the_sequence_is_greedy(self):
        for modulus, members in SMALL_CELLS:
            greedy = plain_greedy(members, 500)
            self.assertEqual(greedy, plain_ruled(modulus, members, 501))
            sequence = RuledSequence(Cell(modulus, members))
            self.assertEqual(list(itertools.islice(sequence.walk(), len(greedy))), greedy)
            self.assertEqual(list(GreedySequence(members).walk(0))[:len(greedy)], greedy)

    def test_the_sequence_of_a_great_cell(self):
        members = plain_greedy((0, 3), 27 * 81)
        members = [x for x in members if x < 9 * 81]
        cell = Cell(9 * 81, members)
        self.assertEqual(cell.size, 64)
        sequence = RuledSequence(cell)
        small = RuledSequence(Cell(9, (0, 3, 4, 7)))
        for number in [*range(200), *GREAT_NUMBERS]:
            self.assertEqual(sequence.member(number), small.member(number))
            self.assertEqual(sequence.rank(number), small.rank(number))

    def test_member_number_n(self):
        base = plain_base(3 ** 6)
        for modulus, members in SMALL_CELLS:
            sequence = RuledSequence(Cell(modulus, members))
            k = len(members)
            for n in range(64 * k):
                self.same(sequence.member(n), members[n % k] + modulus * base[n // k])
            for n in GREAT_NUMBERS:
                word = f"{n // k:b}"
                self.same(sequence.member(n), members[n % k] + modulus * int(word, 3))

    def test_rank(self):
        for modulus, members in SMALL_CELLS:
            sequence = RuledSequence(Cell(modulus, members))
            numbers = plain_ruled(modulus, members, 300)
            for x in range(300):
                self.same(sequence.rank(x), sum(y < x for y in numbers))


class Point22Test(unittest.TestCase, Checks):
    def check(self, modulus, members, x):
        """cover agrees with the definition."""
        sequence = RuledSequence(Cell(modulus, members))
        if in_plain_ruled(modulus, members, x):
            self.fails(IsMember, {"given": x}, sequence.cover, x)
            return
        pair = plain_ruling_pair(modulus, members, x)
        if pair is None:
            self.fails(NotCovered, {"given": x}, sequence.cover, x)
            return
        self.same(sequence.cover(x), pair)
        y, z = pair
        self.assertTrue(y < z and 2 * z - y == x)
        self.assertTrue(in_plain_ruled(modulus, members, y) and in_plain_ruled(modulus, members, z))
        self.same(sequence.check_cover(x, pair), True)

    def test_small_numbers(self):
        for modulus, members in SMALL_CELLS:
            for x in range(300):
                self.check(modulus, members, x)

    def test_great_numbers(self):
        for modulus, members in SMALL_CELLS:
            for number in GREAT_NUMBERS:
                for x in range(number, number + 12):
                    self.check(modulus, members, x)

    def test_great_cells(self):
        members = tuple(plain_base(3 ** 8))
        for x in (2, 6560, 6561 * 2 + 5, *GREAT_NUMBERS):
            self.check(3 ** 8, members, x)

    def test_every_number_behind_the_greatest_member_is_a_member_or_covered(self):
        for modulus, members in SMALL_CELLS:
            sequence = RuledSequence(Cell(modulus, members))
            for x in range(members[-1] + 1, 300):
                if not sequence.contains(x):
                    self.same(sequence.check_cover(x, sequence.cover(x)), True)

    def test_shifted(self):
        for modulus, members in SMALL_CELLS:
            for shift in (1, 7, 10 ** 59):
                sequence = ShiftedSequence(Cell(modulus, members), shift=shift)
                for x in [*range(100), *GREAT_NUMBERS]:
                    if not in_plain_ruled(modulus, members, x):
                        pair = plain_ruling_pair(modulus, members, x)
                        if pair is None:
                            self.fails(NotCovered, {"given": x + shift}, sequence.cover, x + shift)
                        else:
                            self.same(sequence.cover(x + shift), (pair[0] + shift, pair[1] + shift))


class Point23Test(unittest.TestCase, Checks):
    def test_members_from_a_power_on(self):
        for modulus, members in SMALL_CELLS:
            sequence = RuledSequence(Cell(modulus, members))
            for e in range(4):
                front = modulus * 3 ** e
                numbers = plain_ruled(modulus, members, 3 * front)
                below = [x for x in numbers if x < front]
                self.assertEqual([x for x in numbers if x >= front], [x + front for x in below])
                self.assertEqual(sequence.rank(front), len(below))
                self.assertEqual(sequence.rank(2 * front), 2 * len(below))
                self.assertEqual(sequence.rank(3 * front), 2 * len(below))
                for x in range(2 * front, 3 * front, 1 + front // 50):
                    self.same(sequence.contains(x), False)
            great = modulus * 3 ** 100
            self.assertEqual(sequence.next_member(2 * great - 1), 3 * great + members[0])
            self.assertEqual(sequence.last_member(3 * great - 1), sequence.last_member(great - 1) + great)

    def test_three_times_the_modulus(self):
        for modulus, members in SMALL_CELLS:
            tripled = RuledSequence(Cell(modulus, members)).tripled()
            self.assertEqual(tripled.cell.modulus, 3 * modulus)
            self.assertEqual(tripled.cell.members, tuple(plain_ruled(modulus, members, 3 * modulus)))
            for x in [*range(200), *GREAT_NUMBERS]:
                self.same(tripled.contains(x), in_plain_ruled(modulus, members, x))


class Point24Test(unittest.TestCase, Checks):
    def test_gaps(self):
        for modulus, members in SMALL_CELLS:
            k = len(members)
            for sequence in (RuledSequence(Cell(modulus, members)), ShiftedSequence(Cell(modulus, members), shift=3)):
                for n in [*range(1, 200), *GREAT_NUMBERS, k * 2 ** 100, 3 * k * 2 ** 150]:
                    if n % k:
                        self.same(sequence.gap(n), members[n % k] - members[n % k - 1])
                    else:
                        m = n // k
                        t = len(f"{m:b}") - len(f"{m:b}".rstrip("0"))
                        self.same(sequence.gap(n), members[0] - members[-1] + modulus * (3 ** t + 1) // 2)


if __name__ == "__main__":
    unittest.main()
