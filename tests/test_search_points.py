"""Points [50] to [52] against their definitions."""

import itertools
import unittest

from tests.support import (
    GREAT_NUMBERS,
    SMALL_CELLS,
    Checks,
    plain_cells,
    plain_greedy,
    plain_pairs,
    plain_ruled,
    plain_servers,
    plain_triples,
    plain_violation,
)
from triplefree.cells import Cell
from triplefree.errors import InvalidCertificate, NotRuled
from triplefree.products import product
from triplefree.ruled import RuledSequence
from triplefree.search import Verdict, cells_of, least_start, moduli, ruling

STARTS = [row for size in (1, 2, 3) for row in itertools.combinations(range(8), size) if not plain_triples(row)]


def plain_certificate(modulus, members):
    """The certificate of a modulus for the members of a sequence below it, by the definition."""
    violation = plain_violation(modulus, members)
    if violation is None:
        return ("rules", *members)
    word = {"free": "clash", "served": "unserved"}[violation[0]]
    return (word, *violation[1:])


def is_right(modulus, members, certificate):
    """True if a certificate of a right form is right, by the definition."""
    word, *numbers = certificate
    if word == "rules":
        return numbers == members and plain_violation(modulus, members) is None
    if word == "clash":
        y, z, x = numbers
        return all(n in members for n in numbers) and (2 * z - y - x) % modulus == 0 and not y == z == x
    r = numbers[0]
    return 0 <= r < modulus and r not in members and not plain_servers(modulus, members, r)


class Point50Test(unittest.TestCase, Checks):
    def test_verdicts(self):
        for start in STARTS:
            greedy = plain_greedy(start, 40)
            for modulus in range(start[-1] + 1, 32):
                members = [x for x in greedy if x < modulus]
                wanted = plain_certificate(modulus, members)
                verdict = Verdict.of(start, modulus)
                self.same(verdict.certificate(), wanted)
                self.same(verdict.WORD, wanted[0])
                self.same(verdict.is_ruling(), wanted[0] == "rules")
                if verdict.is_ruling():
                    self.same(verdict.cell, Cell(modulus, members))

    def test_certificates_are_checked(self):
        for start in STARTS[::5]:
            greedy = plain_greedy(start, 20)
            for modulus in range(start[-1] + 1, 13):
                members = [x for x in greedy if x < modulus]
                rows = [("rules", *members), ("rules", *members[:-1], members[-1] + 1), ("rules", *members, modulus)]
                rows += [("clash", *row) for row in itertools.product(members, repeat=3)]
                rows += [("unserved", r) for r in range(-1, modulus + 2)]
                for row in rows:
                    if is_right(modulus, members, row):
                        self.assertIsNone(Verdict.check(start, modulus, row))
                    else:
                        self.fails(InvalidCertificate, {"part": row[0]}, Verdict.check, start, modulus, row)

    def test_a_ruled_sequence_is_the_greedy_one(self):
        for start in STARTS:
            for modulus in itertools.islice(moduli(start), 2):
                sequence = Verdict.of(start, modulus).as_sequence()
                greedy = plain_greedy(start, 300)
                self.assertEqual(list(itertools.islice(sequence.walk(), len(greedy))), greedy)
                self.assertGreater(modulus, start[-1])

    def test_great_numbers(self):
        # 3, 9 and so on rule the same sequence, also for great numbers.
        one = Verdict.of((0, 3), 9).as_sequence()
        other = Verdict.of((0, 3), 729).as_sequence()
        for x in GREAT_NUMBERS:
            self.same(one.member(x), other.member(x))


class Point51Test(unittest.TestCase, Checks):
    def test_the_moduli_by_their_definition(self):
        for start in STARTS:
            greedy = plain_greedy(start, 60)
            found = []
            for modulus in range(start[-1] + 1, 41):
                if plain_violation(modulus, [x for x in greedy if x < modulus]) is None:
                    found.append(modulus)
            self.assertEqual(list(moduli(start, most=40)), found)
            for limit in (1, 8, 9, 26, 27, 40):
                wanted = [modulus for modulus in found if modulus <= limit]
                self.assertEqual(list(moduli(start, most=limit)), wanted)
                if wanted:
                    self.same(ruling(start, most=limit).cell.modulus, wanted[0])
                else:
                    self.fails(NotRuled, {"limit": limit}, ruling, start, most=limit)

    def test_great_moduli(self):
        for start in ((0,), (0, 2), (0, 3), (0, 1, 7), (1, 2, 8)):
            found = list(moduli(start, most=729))
            for modulus in range(start[-1] + 1, 730):
                self.same(Verdict.of(start, modulus).is_ruling(), modulus in found)
            for one, other in zip(found, found[1:]):
                self.assertEqual(other, 3 * one)
            self.assertGreater(3 * found[-1], 729)

    def test_the_gap_in_front_of_a_power(self):
        for modulus, members in SMALL_CELLS:
            sequence = RuledSequence(Cell(modulus, members))
            k = len(members)
            for e in (1, 2, 3):
                number = k * 2 ** e
                self.assertEqual(sequence.member(number), members[0] + modulus * 3 ** e)
                gap = sequence.gap(number)
                self.assertTrue(all(sequence.gap(n) < gap for n in range(1, number)))


class CellsTest(unittest.TestCase, Checks):
    def test_all_cells_with_a_modulus(self):
        for modulus in range(1, 13):
            found = list(cells_of(modulus))
            self.assertEqual([cell.members for cell in found], plain_cells(modulus))
            self.assertTrue(all(cell.modulus == modulus for cell in found))


class Point52Test(unittest.TestCase, Checks):
    def test_least_starts_by_their_definition(self):
        rows = [*SMALL_CELLS, *[(n, members) for n in (3, 9, 10) for members in plain_cells(n)]]
        for modulus, members in rows:
            numbers = plain_ruled(modulus, members, 150)
            starts = [numbers[:k] for k in range(1, len(numbers))]
            right = [start for start in starts if plain_greedy(start, 149) == numbers]
            found = least_start(Cell(modulus, members))
            self.same(found, tuple(right[0]))
            # All longer beginnings are starts, too.
            self.assertEqual(right, starts[len(found) - 1:])

    def test_great_cells(self):
        for cell in (product(Cell.base(digits=4), Cell(10, (1, 2, 8, 9))), product(Cell(10, (0, 1, 7, 8)), Cell(3, (0, 2)))):
            numbers = plain_ruled(cell.modulus, cell.members, 2 * cell.modulus)
            found = least_start(cell)
            self.assertEqual(list(found), numbers[:len(found)])
            self.assertEqual(plain_greedy(found, 2 * cell.modulus - 1), numbers)
            self.assertNotEqual(plain_greedy(found[:-1], 2 * cell.modulus - 1), numbers)

    def test_a_start_ends_behind_all_open_numbers(self):
        for modulus, members in SMALL_CELLS:
            found = least_start(Cell(modulus, members))
            open_numbers = [x for x in range(members[-1]) if x not in members and not plain_pairs(members, x)]
            self.assertTrue(all(x < found[-1] for x in open_numbers))


if __name__ == "__main__":
    unittest.main()
