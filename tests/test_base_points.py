"""Points [1] to [7] against a plain count by the definitions."""

import itertools
import unittest

from tests.support import HUGE, SEED_NUMBERS, Checks, plain_base, plain_greedy, plain_pairs, plain_triples
from triplefree import base
from triplefree.base import Ternary
from triplefree.errors import InvalidNumber
from triplefree.greedy import GreedySequence, smallest_triple

LIMIT = 243
MEMBERS = plain_base(LIMIT)


def signs(d):
    """The digits -1, 0 and 1 of an integer, the least significant one first."""
    found = []
    while d:
        digit = (d + 1) % 3 - 1
        found.append(digit)
        d = (d - digit) // 3
    return found


class TriplesTest(unittest.TestCase):
    def test_point_1_triples(self):
        self.assertEqual(smallest_triple(0, 1, 2), (0, 1, 2))
        self.assertEqual(smallest_triple(7, 1, 4), (1, 4, 7))
        self.assertIsNone(smallest_triple(1, 1, 1))
        self.assertIsNone(smallest_triple(0, 0, 2))

    def test_point_1_a_pair_covers_one_number(self):
        sequence = GreedySequence((0, 2))
        for x in range(60):
            for y, z in sequence.coverings(x):
                self.assertLess(y, z)
                self.assertEqual(2 * z - y, x)


class BaseSetTest(unittest.TestCase):
    def test_point_2_member_numbers(self):
        for n, member in enumerate(MEMBERS):
            self.assertEqual(base.base_member(n), int(f"{n:b}", 3))
            self.assertEqual(base.base_member(n), member)

    def test_point_2_great_member_numbers(self):
        for n in SEED_NUMBERS:
            self.assertEqual(str(Ternary(base.base_member(n))), f"{n:b}")

    def test_point_2_base_set_is_free_and_greedy(self):
        self.assertEqual(plain_triples(MEMBERS), [])
        self.assertEqual(plain_greedy((0,), LIMIT - 1), MEMBERS)
        self.assertEqual(list(GreedySequence((0,)).walk()), plain_base(2001))

    def test_point_3_plain_pairs(self):
        for m in range(LIMIT):
            y, z = base.plain_pair(m)
            self.assertIn((y, z), plain_pairs(MEMBERS, m) + [(m, m)])
            self.assertIn(y, MEMBERS)
            self.assertIn(z, MEMBERS)
            self.assertEqual(y == z, m in MEMBERS)

    def test_point_3_digits(self):
        table = {"0": ("0", "0"), "1": ("1", "1"), "2": ("0", "1")}
        for m in SEED_NUMBERS:
            pairs = [table[c] for c in str(Ternary(m))]
            wanted = tuple(base_three("".join(column)) for column in zip(*pairs))
            self.assertEqual(base.plain_pair(m), wanted)
            self.assertEqual(2 * wanted[1] - wanted[0], m)

    def test_point_3_other_pairs_may_exist(self):
        self.assertEqual(plain_pairs(MEMBERS, 5), [(1, 3), (3, 4)])
        self.assertEqual(base.plain_pair(5), (3, 4))

    def test_point_4_sums(self):
        for m in range(LIMIT):
            pairs = [(u, m - u) for u in MEMBERS if m - u in MEMBERS]
            self.assertEqual(list(base.sum_pairs(m)), pairs)
            self.assertEqual(base.sum_count(m), len(pairs))

    def test_point_4_great_sums(self):
        for m in SEED_NUMBERS:
            self.assertEqual(base.sum_count(m), 2 ** str(Ternary(m)).count("1"))
            found = list(itertools.islice(base.sum_pairs(m), 9))
            self.assertEqual(found, sorted(set(found)))
            self.assertEqual(len(found), min(9, base.sum_count(m)))
            for u, v in found:
                self.assertEqual(u + v, m)
                self.assertTrue(base.in_base(u) and base.in_base(v))

    def test_point_4_doubles_have_one_pair(self):
        for z in MEMBERS:
            self.assertEqual(list(base.sum_pairs(2 * z)), [(z, z)])

    def test_point_5_differences(self):
        for d in range(-121, 122):
            pairs = [(x, x - d) for x in MEMBERS if x - d in MEMBERS and base.meet(x, x - d) == 0]
            self.assertEqual([base.difference_pair(d)], pairs)

    def test_point_5_great_differences(self):
        for d in [*SEED_NUMBERS, *[-m for m in SEED_NUMBERS]]:
            x, y = base.difference_pair(d)
            self.assertEqual(x - y, d)
            self.assertEqual(base.meet(x, y), 0)
            self.assertEqual(x, sum(3 ** e for e, digit in enumerate(signs(d)) if digit == 1))
            self.assertEqual(base.difference_pair(-d), (y, x))

    def test_point_6_gaps(self):
        for n in range(1, len(MEMBERS)):
            t = next(e for e in range(9) if n % 2 ** (e + 1))
            self.assertEqual(base.base_gap(n), MEMBERS[n] - MEMBERS[n - 1])
            self.assertEqual(base.base_gap(n), (3 ** t + 1) // 2)
        self.assertEqual(base.base_gap(2 ** 1990), (3 ** 1990 + 1) // 2)
        self.assertEqual(base.base_gap(HUGE), 1)

    def test_point_6_sums(self):
        for n in range(len(MEMBERS) + 1):
            self.assertEqual(base.base_sum(n), sum(MEMBERS[:n]))
        for j in (0, 1, 2, 10, 200, 1990):
            self.assertEqual(base.base_sum(2 ** j), 2 ** j * (3 ** j - 1) // 4)

    def test_point_6_mirrors(self):
        for j in range(6):
            few = MEMBERS[:2 ** j]
            for x in few:
                self.assertEqual(base.mirror(x, j), (3 ** j - 1) // 2 - x)
                self.assertIn(base.mirror(x, j), few)

    def test_point_6_sums_of_two_members(self):
        for m, n in itertools.product(range(40), repeat=2):
            parts = base.base_member(m) + base.base_member(n)
            self.assertLessEqual(parts, base.base_member(m + n))
            self.assertEqual(parts == base.base_member(m + n), m & n == 0)

    def test_point_7_join_and_meet(self):
        for x, y in itertools.product(MEMBERS, repeat=2):
            pairs = list(zip(f"{base.base_rank(x):08b}", f"{base.base_rank(y):08b}"))
            self.assertEqual(base.join(x, y), base_three("".join(max(pair) for pair in pairs)))
            self.assertEqual(base.meet(x, y), base_three("".join(min(pair) for pair in pairs)))
            self.assertEqual(base.join(x, y) + base.meet(x, y), x + y)

    def test_point_7_many_members(self):
        for x, y, z in itertools.product(MEMBERS[:12], repeat=3):
            self.assertEqual(base.join(x, y, z), base.join(x, base.join(y, z)))
            self.assertEqual(base.meet(x, y, z), base.meet(x, base.meet(y, z)))
        great = [base.base_member(m) for m in SEED_NUMBERS]
        self.assertEqual(base.join(great[-1], great[-2]) + base.meet(great[-1], great[-2]), great[-1] + great[-2])
        self.assertTrue(base.in_base(base.join(*great)))
        self.assertEqual(base.meet(*great), 0)


def base_three(word):
    """The number with these ternary digits."""
    number = 0
    for c in word:
        number = 3 * number + int(c)
    return number


class GeneralTest(unittest.TestCase, Checks):
    def test_point_0_triples_are_evenly_spaced(self):
        self.assertEqual(smallest_triple(*range(5, 100, 9)), (5, 14, 23))

    def test_point_0_numbers_with_hundreds_of_digits(self):
        big = 10 ** 599
        self.assertEqual(smallest_triple(big, 3 * big, 2 * big), (big, 2 * big, 3 * big))
        self.assertIsNone(smallest_triple(big, 3 * big, 2 * big + 1))

    def test_point_0_no_state_is_shared(self):
        for _ in range(2):
            self.assertEqual(list(base.sum_pairs(4)), [(0, 4), (1, 3), (3, 1), (4, 0)])
            self.fails(InvalidNumber, {"given": -1}, base.base_member, -1)


if __name__ == "__main__":
    unittest.main()
