"""The interface of search.py: ordinary values, edges and wrong values."""

import itertools
import unittest

from tests.support import HUGE, SMALL_CELLS, Checks, Thing, not_integers, not_numbers, plain_base
from tests.test_products import not_cells
from triplefree import search
from triplefree.cells import Cell
from triplefree.errors import (
    InvalidCell,
    InvalidCertificate,
    InvalidModulus,
    InvalidNumber,
    InvalidStart,
    NotFree,
    NotRuled,
)
from triplefree.products import product
from triplefree.ruled import RuledSequence
from triplefree.search import Clash, Ruling, Unserved, Verdict, cells_of, least_start, moduli, ruling

FORTY = tuple(plain_base(1000)[:40])


def start_calls():
    """What begins with a start, with right other arguments; generators are asked for their first item."""
    return (
        lambda start: Verdict.of(start, 81),
        lambda start: Verdict.check(start, 81, ("unserved", 1)),
        ruling,
        lambda start: next(moduli(start)),
    )


def broken_start_calls():
    """What begins with a start, with wrong other arguments."""
    return (
        lambda start: Verdict.of(start, None),
        lambda start: Verdict.check(start, None, None),
        lambda start: Verdict.check(start, 81, None),
        lambda start: ruling(start, most=0),
        lambda start: next(moduli(start, most=0)),
    )


class ExamplesTest(unittest.TestCase, Checks):
    def test_examples_of_the_interface(self):
        self.same(Verdict.of((0, 3), 8).certificate(), ("clash", 0, 4, 0))
        self.same(Verdict.of((0, 3), 4).certificate(), ("unserved", 1))
        self.assertEqual(list(moduli((0, 3), most=100)), [9, 27, 81])
        self.same(Verdict.of((0, 3), 9).certificate(), ("rules", 0, 3, 4, 7))
        self.same(str(Verdict.of((0, 3), 9).cell), "9 : 0 3 4 7")

    def test_constant(self):
        self.same(search.MAX_SEARCH, 729)


class StartTest(unittest.TestCase, Checks):
    def test_starts_that_are_none(self):
        values = [value for value in not_integers() if not isinstance(value, (tuple, list)) or not value]
        values += [0, "0 3", range(2), {0: 1}, {0, 3}, tuple(range(41)), [None] * 41]
        for call in (*start_calls(), *broken_start_calls()):
            for value in values:
                self.fails(InvalidStart, {"index": None}, call, value)

    def test_wrong_items(self):
        for call in (*start_calls(), *broken_start_calls()):
            for value in [*not_numbers(), 1000001, HUGE]:
                self.fails(InvalidStart, {"index": 0}, call, (value,))
                self.fails(InvalidStart, {"index": 1}, call, [0, value, None])
            self.fails(InvalidStart, {"index": 1}, call, (3, 3))
            self.fails(InvalidStart, {"index": 2}, call, (0, 3, 1))

    def test_starts_that_are_not_free(self):
        for call in (*start_calls(), *broken_start_calls()):
            self.fails(NotFree, {"low": 0, "middle": 1, "high": 2}, call, (0, 1, 2))
            self.fails(NotFree, {"low": 0, "middle": 2, "high": 4}, call, [0, 1, 2, 3, 4][::2])

    def test_lists_are_not_kept(self):
        start = [0, 3]
        verdict = Verdict.of(start, 9)
        start.append(4)
        self.same(verdict.start, (0, 3))
        self.same(verdict.certificate(), ("rules", 0, 3, 4, 7))
        start.pop()
        items = moduli(start)
        self.assertEqual(next(items), 9)
        start[0] = 2
        self.assertEqual(list(items), [27, 81])
        self.assertEqual(start, [2, 3])


class VerdictTest(unittest.TestCase, Checks):
    def test_words(self):
        rows = ((Verdict, "open"), (Ruling, "rules"), (Clash, "clash"), (Unserved, "unserved"))
        for made, word in rows:
            self.same(made.WORD, word)

    def test_kinds(self):
        rows = (((0, 3), 9, Ruling), ((0, 3), 8, Clash), ((0, 3), 4, Unserved), ([0, 3], 27, Ruling))
        for start, modulus, made in rows:
            verdict = Verdict.of(start, modulus)
            self.assertIs(verdict.__class__, made)
            self.same(verdict.WORD, made.WORD)
            self.same(verdict.start, tuple(start))
            self.same(verdict.modulus, modulus)
            self.same(verdict.is_ruling(), made is Ruling)
            self.assertIsInstance(verdict, Verdict)

    def test_of_a_subclass(self):
        for made in (Ruling, Clash, Unserved):
            self.assertIs(made.of((0, 3), 9).__class__, Ruling)
            self.assertIs(made.of((0, 3), 8).__class__, Clash)

    def test_by_name(self):
        self.assertIs(Verdict.of(modulus=8, start=(0, 3)).__class__, Clash)
        self.assertIsNone(Verdict.check(certificate=("clash", 0, 4, 0), modulus=8, start=(0, 3)))

    def test_ruling(self):
        verdict = Verdict.of((0, 3), 9)
        self.same(verdict.cell, Cell(9, (0, 3, 4, 7)))
        self.same(verdict.as_sequence(), RuledSequence(Cell(9, (0, 3, 4, 7))))

    def test_wrong_moduli(self):
        values = [*not_numbers(), 0, 1, 3, 730, 20000, HUGE]
        for call in (Verdict.of, lambda start, modulus: Verdict.check(start, modulus, None)):
            for value in values:
                self.fails(InvalidModulus, {"given": value}, call, (0, 3), value)
            for value in (FORTY[-1] - 1, FORTY[-1], 730):
                self.fails(InvalidModulus, {"given": value}, call, FORTY, value)
            for start in ((729,), (0, 1000000)):
                for value in (start[-1], start[-1] + 1, 729, 730):
                    self.fails(InvalidModulus, {"given": value}, call, start, value)

    def test_the_greatest_modulus(self):
        self.assertEqual(Verdict.of((728,), 729).certificate(), ("unserved", 0))
        self.assertEqual(Verdict.of((0, 3), 729).cell.size, 64)
        self.assertEqual(Verdict.of((0,), 1).certificate(), ("rules", 0))

    def test_forty_numbers(self):
        verdict = Verdict.of(FORTY, 729)
        self.assertEqual(verdict.certificate(), ("rules", *plain_base(729)))


class CheckTest(unittest.TestCase, Checks):
    def test_right_certificates(self):
        for start in ((0,), (0, 3), (0, 2), (5,), (1, 4, 6)):
            for modulus in range(start[-1] + 1, 60):
                self.assertIsNone(Verdict.check(start, modulus, Verdict.of(start, modulus).certificate()))

    def test_wrong_forms(self):
        values = [*not_numbers(), 0, 1, "rules", "clash", ["rules", 0, 3, 4, 7], ["unserved", 1]]
        values += [("rules",), ("clash",), ("unserved",), ("open", 1), ("open",), ("", 1), ("Rules", 0), (b"rules", 0)]
        values += [("clash", 0, 4), ("clash", 0, 4, 0, 0), ("unserved", 1, 1), ("clash", 0), ("unserved", 0, 4, 0)]
        values += [(1, 2), (None, 1), (Thing(), 1), ((), 1), (True, 0), (["rules"], 0), ({}, 1), ("rules", (0, 3, 4, 7))]
        for value in not_integers():
            values += [("rules", value), ("rules", 0, 3, value), ("clash", 0, value, 0), ("unserved", value)]
        for modulus in (4, 8, 9):
            for value in values:
                self.fails(InvalidCertificate, {"part": "form"}, Verdict.check, (0, 3), modulus, value)

    def test_wrong_rules(self):
        wrong = {"part": "rules"}
        for numbers in ((0,), (0, 3), (0, 3, 4), (0, 3, 4, 7, 9), (0, 3, 4, 8), (0, 3, 4, 4, 7), (-1, 3, 4, 7), (HUGE,)):
            self.fails(InvalidCertificate, wrong, Verdict.check, (0, 3), 9, ("rules", *numbers))
        # The members below the modulus, in ascending order, but no cell.
        self.fails(InvalidCertificate, wrong, Verdict.check, (0, 3), 8, ("rules", 0, 3, 4, 7))
        self.fails(InvalidCertificate, wrong, Verdict.check, (0, 3), 4, ("rules", 0, 3))
        self.assertIsNone(Verdict.check((0, 3), 9, ("rules", 0, 3, 4, 7)))

    def test_clashes(self):
        wrong = {"part": "clash"}
        right = [(0, 4, 0), (4, 0, 4), (3, 7, 3), (7, 3, 7)]
        for numbers in itertools.product((0, 3, 4, 7), repeat=3):
            if numbers in right:
                self.assertIsNone(Verdict.check((0, 3), 8, ("clash", *numbers)))
            else:
                self.fails(InvalidCertificate, wrong, Verdict.check, (0, 3), 8, ("clash", *numbers))
        for numbers in ((0, 4, 8), (8, 4, 0), (0, 12, 0), (1, 2, 3), (1, 5, 1), (-8, 4, 0), (0, -4, 0), (0, 4, HUGE)):
            self.fails(InvalidCertificate, wrong, Verdict.check, (0, 3), 8, ("clash", *numbers))
        for numbers in itertools.product((0, 3, 4, 7), repeat=3):
            self.fails(InvalidCertificate, wrong, Verdict.check, (0, 3), 9, ("clash", *numbers))

    def test_unserved(self):
        wrong = {"part": "unserved"}
        self.assertIsNone(Verdict.check((0, 3), 4, ("unserved", 1)))
        for remainder in (-3, -1, 0, 2, 3, 4, 5, 6, HUGE, -HUGE):
            self.fails(InvalidCertificate, wrong, Verdict.check, (0, 3), 4, ("unserved", remainder))
        for remainder in range(-9, 20):
            self.fails(InvalidCertificate, wrong, Verdict.check, (0, 3), 9, ("unserved", remainder))
        # It need not be the smallest one.
        self.assertEqual(Verdict.of((0, 6), 9).certificate(), ("unserved", 1))
        for remainder in (1, 2, 4):
            self.assertIsNone(Verdict.check((0, 6), 9, ("unserved", remainder)))

    def test_a_clash_and_a_lack_together(self):
        # Both (a) and (b) are violated, and both certificates are right.
        self.assertEqual(Verdict.of((0, 5), 10).certificate()[0], "clash")
        self.assertIsNone(Verdict.check((0, 5), 10, ("clash", 0, 5, 0)))
        self.assertIsNone(Verdict.check((0, 5), 10, ("unserved", 4)))
        self.fails(InvalidCertificate, {"part": "unserved"}, Verdict.check, (0, 5), 10, ("unserved", 3))
        self.fails(InvalidCertificate, {"part": "rules"}, Verdict.check, (0, 5), 10, ("rules", 0, 5, 6, 8, 9))


class RulingTest(unittest.TestCase, Checks):
    def test_ruling(self):
        self.same(ruling((0, 3)), RuledSequence(Cell(9, (0, 3, 4, 7))))
        self.same(ruling([0]), RuledSequence(Cell(1, (0,))))
        self.same(ruling((0, 1)), RuledSequence(Cell(3, (0, 1))))
        self.same(ruling(start=(0, 1, 7), most=10), RuledSequence(Cell(10, (0, 1, 7, 8))))
        self.same(ruling(FORTY, most=729).cell.modulus, 729)

    def test_not_ruled(self):
        self.fails(NotRuled, {"limit": 81}, ruling, (0, 4))
        self.fails(NotRuled, {"limit": 8}, ruling, (0, 3), most=8)
        self.fails(NotRuled, {"limit": 1}, ruling, (0, 3), most=1)
        self.fails(NotRuled, {"limit": 729}, ruling, (0, 4), most=729)
        self.fails(NotRuled, {"limit": 81}, ruling, (1000000,))
        self.fails(NotRuled, {"limit": 81}, ruling, (80, 81))
        self.fails(NotRuled, {"limit": 81}, ruling, FORTY)

    def test_wrong_most(self):
        for value in [*not_numbers(), 0, 730, HUGE]:
            self.fails(InvalidNumber, {"given": value}, ruling, (0, 3), most=value)
            self.fails_at_first_item(InvalidNumber, {"given": value}, moduli, (0, 3), most=value)
            # The limit is examined before the question whether a modulus rules.
            self.fails(InvalidNumber, {"given": value}, ruling, (1000000,), most=value)

    def test_most_is_passed_by_name(self):
        for call in (ruling, moduli):
            with self.assertRaises(TypeError):
                call((0, 3), 81)


class ModuliTest(unittest.TestCase, Checks):
    def test_moduli(self):
        rows = [
            ((0,), 81, [1, 3, 9, 27, 81]),
            ((0, 1), 81, [3, 9, 27, 81]),
            ((0, 3), 81, [9, 27, 81]),
            ((0, 3), 80, [9, 27]),
            ((0, 3), 9, [9]),
            ((0, 3), 8, []),
            ((0, 3), 729, [9, 27, 81, 243, 729]),
            ((0, 1, 7), 729, [10, 30, 90, 270]),
            ((0, 4), 729, []),
            ((1000000,), 729, []),
            ((81,), 81, []),
        ]
        for start, most, wanted in rows:
            self.assertEqual(list(moduli(start, most=most)), wanted)
        self.assertEqual(list(moduli(start=[0, 3])), [9, 27, 81])

    def test_errors_come_with_the_first_item(self):
        self.fails_at_first_item(InvalidStart, {"index": None}, moduli, ())
        self.fails_at_first_item(InvalidStart, {"index": 1}, moduli, (0, 0))
        self.fails_at_first_item(NotFree, {"low": 0, "middle": 1, "high": 2}, moduli, (0, 1, 2))


class CellsOfTest(unittest.TestCase, Checks):
    def test_small_moduli(self):
        rows = [(1, 1), (2, 0), (3, 3), (10, 2), (11, 0), (12, 0)]
        for modulus, count in rows:
            self.assertEqual(len(list(cells_of(modulus))), count)
        self.assertEqual([str(cell) for cell in cells_of(modulus=3)], ["3 : 0 1", "3 : 0 2", "3 : 1 2"])
        self.assertEqual([str(cell) for cell in cells_of(10)], ["10 : 0 1 7 8", "10 : 1 2 8 9"])

    def test_wrong_moduli(self):
        for value in [*not_numbers(), 0, 13, 27, HUGE]:
            self.fails_at_first_item(InvalidModulus, {"given": value}, cells_of, value)


class LeastStartTest(unittest.TestCase, Checks):
    def test_least_starts(self):
        rows = [
            (Cell(1, (0,)), (0,)),
            (Cell.base(), (0,)),
            (Cell.base(digits=8), (0,)),
            (Cell(3, (1, 2)), (1,)),
            (Cell(3, (0, 2)), (0, 2)),
            (Cell(9, (0, 3, 4, 7)), (0, 3)),
            (Cell(10, (0, 1, 7, 8)), (0, 1, 7)),
        ]
        for cell, wanted in rows:
            self.same(least_start(cell), wanted)
        self.same(least_start(cell=Cell.base()), (0,))

    def test_more_than_forty_members(self):
        # The greatest number that is open for a + 243 t, with t in the sequence of the other factor, is 243 * 7 - 1.
        cell = product(Cell.base(digits=5), Cell(10, (0, 1, 7, 8)))
        found = least_start(cell)
        self.assertEqual(len(found), 65)
        self.assertEqual(found, cell.members[:65])
        self.assertEqual(found[-1], 243 * 7)

    def test_wrong_cells(self):
        for value in not_cells():
            self.fails(InvalidCell, {"part": "cell"}, least_start, value)

    def test_of_all_small_cells(self):
        for row in SMALL_CELLS:
            found = least_start(Cell(*row))
            self.assertEqual(found, row[1][:len(found)])


if __name__ == "__main__":
    unittest.main()
