"""Point [20] against its definition."""

import itertools
import random
import unittest

from tests.support import SMALL_CELLS, Checks, plain_base, plain_clash, plain_servers, plain_violation
from triplefree.cells import Cell
from triplefree.errors import NotFree, NotServed


def some_sets():
    """Moduli with sets of numbers below them, many of them almost cells."""
    source = random.Random(20)
    for modulus, members in SMALL_CELLS:
        for left_out in members:
            yield modulus, tuple(a for a in members if a != left_out)
        for _ in range(20):
            yield modulus, tuple(sorted({source.randrange(modulus) for _ in range(len(members))}))
            yield modulus + source.randrange(1, 9), members
            yield modulus, tuple(sorted({*members, source.randrange(modulus)}))


class DefinitionTest(unittest.TestCase, Checks):
    def check(self, modulus, members):
        """The constructor and violation agree with the definition."""
        wrong = plain_violation(modulus, members)
        self.assertEqual(Cell.violation(modulus, members), wrong, (modulus, members))
        if wrong is None:
            self.assertEqual(Cell(modulus, members).members, members)
        elif wrong[0] == "free":
            self.fails(NotFree, dict(zip(("low", "middle", "high"), wrong[1:])), Cell, modulus, members)
        else:
            self.fails(NotServed, {"remainder": wrong[1]}, Cell, modulus, members)
        return wrong is None

    def test_all_sets_with_small_moduli(self):
        found = 0
        for modulus in range(1, 10):
            for size in range(1, modulus + 1):
                for members in itertools.combinations(range(modulus), size):
                    found += self.check(modulus, members)
        self.assertEqual(found, 22)

    def test_sets_with_greater_moduli(self):
        for modulus, members in some_sets():
            if members:
                self.check(modulus, members)

    def test_small_cells(self):
        for modulus, members in SMALL_CELLS:
            self.assertTrue(self.check(modulus, members))

    def test_condition_a_looks_at_z_below_y(self):
        # 2 * 0 - 1 is 4 modulo 5, and no z above y gives a member.
        self.assertEqual(plain_clash(5, (0, 1, 4)), (1, 0, 4))
        self.assertEqual(Cell.violation(5, (0, 1, 4)), ("free", 1, 0, 4))

    def test_condition_b_only_below_the_greatest_member(self):
        # 4 + 10 is 2 * 7 - 0, and 9 would be 2 * 8 - 7; without 8, nothing serves what is behind 7.
        self.assertEqual(plain_servers(10, (0, 1, 7), 4), [(1, 0, 7)])
        self.assertEqual(plain_servers(10, (0, 1, 7), 9), [])
        wrong = Cell.violation(10, (0, 1, 7))
        self.assertEqual(wrong, plain_violation(10, (0, 1, 7)))

    def test_great_cells(self):
        members = tuple(plain_base(3 ** 8))
        cell = Cell(3 ** 8, list(members))
        self.assertEqual(cell, Cell.base(digits=8))
        for remainder in [2, 5, 8, 80, 6560, 3 ** 7 - 1, 2 * 3 ** 7, 4000]:
            rows = plain_servers(3 ** 8, members, remainder)
            self.assertEqual((cell.carry(remainder), *cell.serving_pair(remainder)), rows[0])
        for changed in (members[:-1], members[1:], (*members[:128], *members[129:])):
            word, remainder = Cell.violation(3 ** 8, changed)
            self.assertEqual(word, "served")
            self.assertEqual(plain_servers(3 ** 8, changed, remainder), [])
            less = [r for r in range(remainder) if r not in changed][-20:]
            self.assertTrue(all(plain_servers(3 ** 8, changed, r) for r in less))
        self.assertEqual(Cell.violation(3 ** 8, (*members[:-1], 6559))[0], "free")

    def test_the_greatest_modulus(self):
        word, *rest = Cell.violation(20000, tuple(range(0, 20000, 157)))
        self.assertEqual((word, rest), ("free", [0, 157, 314]))
        members = tuple(plain_base(20000)[:256])
        self.assertEqual(Cell.violation(20000, members), ("served", 2 * members[-1] + 1))


class ServingTest(unittest.TestCase, Checks):
    def test_serving_pair_and_carry(self):
        for modulus, members in SMALL_CELLS:
            cell = Cell(modulus, members)
            for remainder in range(modulus):
                if remainder not in members:
                    rows = plain_servers(modulus, members, remainder)
                    self.same(cell.carry(remainder), rows[0][0])
                    self.same(cell.serving_pair(remainder), rows[0][1:])

    def test_the_least_carry_comes_before_the_smallest_pair(self):
        rows = [
            (modulus, members, remainder)
            for modulus, members in SMALL_CELLS
            for remainder in range(modulus)
            if remainder not in members
        ]
        differing = 0
        for modulus, members, remainder in rows:
            servers = plain_servers(modulus, members, remainder)
            smallest = min(servers, key=lambda row: row[1:])
            if smallest[1:] != servers[0][1:]:
                differing += 1
                self.assertEqual(Cell(modulus, members).serving_pair(remainder), servers[0][1:])
        self.assertGreater(differing, 0)


if __name__ == "__main__":
    unittest.main()
