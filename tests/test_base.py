"""The interface of base.py: ordinary values, edges and wrong values."""

import itertools
import unittest

from tests.support import HUGE, SEED_NUMBERS, Checks, Thing, not_integers, not_numbers, plain_base, ternary_word
from triplefree import base
from triplefree.base import Ternary
from triplefree.errors import InvalidMembers, InvalidNumber

ONE_NUMBER = {
    "base_member": "number",
    "in_base": "x",
    "base_rank": "x",
    "next_base": "x",
    "last_base": "x",
    "base_gap": "number",
    "base_sum": "number",
    "plain_pair": "m",
    "sum_count": "m",
}
MEMBERS = plain_base(3 ** 7)


class ExamplesTest(unittest.TestCase):
    def test_examples_of_the_interface(self):
        self.assertEqual(base.base_member(5), 10)
        self.assertEqual(base.base_rank(10), 5)
        self.assertEqual(base.last_base(8), 4)
        self.assertEqual(base.base_sum(4), 8)
        self.assertEqual(base.mirror(1, 2), 3)
        self.assertEqual(base.plain_pair(5), (3, 4))
        self.assertEqual(base.difference_pair(-2), (1, 3))
        self.assertEqual(base.join(1, 9, 10), 10)
        self.assertEqual(str(Ternary(5)), "12")


class WrongValuesTest(unittest.TestCase, Checks):
    def test_functions_of_one_number(self):
        for name in ONE_NUMBER:
            for value in not_numbers():
                with self.subTest(name=name, value=repr(value.__class__)):
                    self.fails(InvalidNumber, {"given": value}, getattr(base, name), value)

    def test_gap_in_front_of_the_first_member(self):
        self.fails(InvalidNumber, {"given": 0}, base.base_gap, 0)

    def test_generators_raise_at_the_first_item(self):
        for value in not_numbers():
            self.fails_at_first_item(InvalidNumber, {"given": value}, base.sum_pairs, value)
            self.fails_at_first_item(InvalidNumber, {"given": value}, base.base_members, value)
            self.fails_at_first_item(InvalidNumber, {"given": value}, base.base_members, start=value)

    def test_difference_pair(self):
        for value in not_integers():
            self.fails(InvalidNumber, {"given": value}, base.difference_pair, value)

    def test_mirror_power(self):
        for value in [*not_numbers(), 2001, HUGE]:
            self.fails(InvalidNumber, {"given": value}, base.mirror, 0, value)
            # The power is examined first, whatever x is.
            self.fails(InvalidNumber, {"given": value}, base.mirror, "x", value)

    def test_mirror_number(self):
        for value in [*not_numbers(), 2, 5, 14, 27, 28, HUGE]:
            self.fails(InvalidNumber, {"given": value}, base.mirror, value, 3)
        self.fails(InvalidNumber, {"given": 1}, base.mirror, 1, 0)
        self.fails(InvalidNumber, {"given": 3 ** 1257}, base.mirror, 3 ** 1257, 1257)

    def test_join_and_meet(self):
        for call in (base.join, base.meet):
            for value in [*not_numbers(), 2, 5, 8, 3 ** 1257 - 1]:
                self.fails(InvalidMembers, {"index": 0}, call, value)
                self.fails(InvalidMembers, {"index": 2}, call, 1, 3, value)
                self.fails(InvalidMembers, {"index": 1}, call, 1, value, 2, None)
        self.fails(InvalidMembers, {"index": None}, base.meet)
        self.assertEqual(base.join(), 0)

    def test_ternary(self):
        for value in not_numbers():
            self.fails(InvalidNumber, {"given": value}, Ternary, value)
        for value in [*not_numbers(), 3, 4, 10, HUGE]:
            self.fails(InvalidNumber, {"given": value}, Ternary.from_digits, value)
            self.fails(InvalidNumber, {"given": value}, Ternary.from_digits, 1, 2, value, 7)


class OrdinaryTest(unittest.TestCase, Checks):
    def test_against_a_plain_list(self):
        for n, member in enumerate(MEMBERS):
            self.assertEqual(base.base_member(n), member)
        for x in range(800):
            with self.subTest(x=x):
                self.same(base.in_base(x), x in MEMBERS)
                self.same(base.base_rank(x), len([m for m in MEMBERS if m < x]))
                self.same(base.next_base(x), min(m for m in MEMBERS if m > x))
                self.same(base.last_base(x), max(m for m in MEMBERS if m <= x))
                self.same(base.sum_count(x), 2 ** ternary_word(x).count("1"))

    def test_gaps_and_sums(self):
        for n in range(1, len(MEMBERS)):
            self.same(base.base_gap(n), MEMBERS[n] - MEMBERS[n - 1])
        for n in range(len(MEMBERS) + 1):
            self.same(base.base_sum(n), sum(MEMBERS[:n]))

    def test_great_numbers(self):
        for x in SEED_NUMBERS:
            with self.subTest(x=str(x)[:9]):
                member = base.base_member(x)
                self.assertTrue(base.in_base(member))
                self.assertEqual(base.base_rank(member), x)
                self.assertEqual(base.last_base(member), member)
                self.assertEqual(base.base_member(x + 1), base.next_base(member))
                self.assertEqual(base.base_gap(x + 1), base.base_member(x + 1) - member)
                self.assertEqual(base.base_sum(x + 1) - base.base_sum(x), member)
                self.assertEqual(base.in_base(x), "2" not in ternary_word(x))

    def test_ranks_between_members(self):
        for x in SEED_NUMBERS:
            rank = base.base_rank(x)
            self.assertGreaterEqual(base.base_member(rank), x)
            if rank:
                self.assertLess(base.base_member(rank - 1), x)
            self.assertLessEqual(base.last_base(x), x)
            self.assertGreater(base.next_base(x), x)
            self.assertEqual(base.base_rank(base.next_base(x)), base.base_rank(x + 1))
            self.assertEqual(base.base_rank(base.last_base(x)), base.base_rank(x + 1) - 1)

    def test_powers_of_three_and_their_neighbours(self):
        for e in (1, 2, 5, 40, 1000, 1257):
            power = 3 ** e
            self.assertEqual(base.base_rank(power), 2 ** e)
            self.assertEqual(base.base_rank(power - 1), 2 ** e)
            self.assertEqual(base.base_rank(power + 1), 2 ** e + 1)
            self.assertEqual(base.last_base(power - 1), (power - 1) // 2)
            self.assertEqual(base.next_base(power - 1), power)
            self.assertEqual(base.base_member(2 ** e), power)
            self.assertEqual(base.base_gap(2 ** e), (power + 1) // 2)

    def test_sum_pairs_are_lazy_and_ascending(self):
        m = (3 ** 1257 - 1) // 2
        first = list(itertools.islice(base.sum_pairs(m), 5))
        self.assertEqual(first, [(u, m - u) for u in (0, 1, 3, 4, 9)])
        self.assertEqual(list(base.sum_pairs(0)), [(0, 0)])
        self.assertEqual(list(base.sum_pairs(2)), [(1, 1)])
        self.assertEqual(list(base.sum_pairs(1)), [(0, 1), (1, 0)])
        self.assertEqual(list(base.sum_pairs(3 ** 1257)), [(0, 3 ** 1257), (3 ** 1257, 0)])

    def test_base_members(self):
        self.assertEqual(list(itertools.islice(base.base_members(), len(MEMBERS))), MEMBERS)
        self.assertEqual(list(itertools.islice(base.base_members(0), 3)), [0, 1, 3])
        self.assertEqual(list(itertools.islice(base.base_members(5), 20)), MEMBERS[5:25])
        found = list(itertools.islice(base.base_members(HUGE), 6))
        self.assertEqual(found, [base.base_member(HUGE + n) for n in range(6)])

    def test_mirror(self):
        for power in range(6):
            few = MEMBERS[:2 ** power]
            self.assertEqual([base.mirror(x, power) for x in few], list(reversed(few)))
        greatest = (3 ** 2000 - 1) // 2
        self.assertEqual(base.mirror(0, 2000), greatest)
        self.assertEqual(base.mirror(greatest, 2000), 0)

    def test_join_and_meet(self):
        self.assertEqual(base.meet(4, 10, 13), 1)
        self.assertEqual(base.join(4, 10, 13), 13)
        for x in MEMBERS[:20]:
            self.same(base.join(x), x)
            self.same(base.meet(x), x)
            self.assertEqual(base.meet(x, x), x)
            self.assertEqual(base.join(0, x), x)
            self.assertEqual(base.meet(0, x), 0)

    def test_values_are_of_the_listed_kinds(self):
        self.same(base.in_base(4), True)
        self.same(base.in_base(5), False)
        for pair in (base.plain_pair(5), base.difference_pair(5), next(base.sum_pairs(5))):
            self.assertIs(pair.__class__, tuple)
            self.assertEqual([item.__class__ for item in pair], [int, int])

    def test_calls_by_name(self):
        for name, parameter in ONE_NUMBER.items():
            for value in (1, 5, 13, HUGE):
                call = getattr(base, name)
                self.same(call(**{parameter: value}), call(value))
        self.assertEqual(list(base.sum_pairs(m=16)), list(base.sum_pairs(16)))
        self.assertEqual(base.mirror(power=3, x=4), base.mirror(4, 3))
        self.assertEqual(base.difference_pair(d=-7), base.difference_pair(-7))
        self.assertEqual(next(base.base_members(start=9)), next(base.base_members(9)))
        self.assertEqual(Ternary(number=7), Ternary(7))
        self.assertEqual(Ternary.is_digit(value=2), True)


class TernaryTest(unittest.TestCase, Checks):
    def test_small_numbers(self):
        for m in range(300):
            word = ternary_word(m)
            made = Ternary(m)
            self.same(made.number, m)
            self.same(made.digits, tuple(int(c) for c in word) if m else ())
            self.same(made.ones, word.count("1"))
            self.same(made.is_plain, "2" not in word)
            self.assertEqual(str(made), word)
            self.assertEqual(Ternary.from_digits(*made.digits), made)

    def test_great_numbers(self):
        for m in SEED_NUMBERS:
            made = Ternary(m)
            self.assertEqual(str(made), ternary_word(m))
            self.assertEqual(Ternary.from_digits(*made.digits).number, m)
            self.assertEqual(2 ** made.ones, base.sum_count(m))
            self.assertEqual(made.is_plain, base.in_base(m))

    def test_from_digits(self):
        self.same(Ternary.from_digits().number, 0)
        self.same(Ternary.from_digits(0, 0).digits, ())
        self.same(Ternary.from_digits(0, 1, 2).number, 5)
        self.assertIs(Ternary.from_digits(1).__class__, Ternary)

    def test_is_digit(self):
        for value in (0, 1, 2):
            self.same(Ternary.is_digit(value), True)
        for value in [*not_numbers(), 3, HUGE]:
            self.same(Ternary.is_digit(value), False)
        self.same(Ternary(7).is_digit(1), True)

    def test_class_value_and_kinds_of_methods(self):
        self.same(Ternary.RADIX, 3)
        self.assertIsInstance(vars(Ternary)["is_digit"], staticmethod)
        self.assertIsInstance(vars(Ternary)["from_digits"], classmethod)
        for name in ("number", "digits", "ones", "is_plain"):
            self.assertIsInstance(vars(Ternary)[name], property)

    def test_equality(self):
        self.assertTrue(Ternary(5) == Ternary.from_digits(0, 1, 2))
        self.assertFalse(Ternary(5) != Ternary(5))
        self.assertFalse(Ternary(5) == Ternary(6))
        self.assertTrue(Ternary(5) != Ternary(6))
        for other in (5, "12", (1, 2), None, True, object()):
            self.assertFalse(Ternary(5) == other)
            self.assertTrue(Ternary(5) != other)
        self.assertFalse(Ternary(1) == True)  # noqa: E712

    def test_subclass(self):
        class Special(Ternary):
            pass

        self.assertIs(Special.from_digits(1, 2).__class__, Special)
        self.assertEqual(Special.from_digits(1, 2), Ternary(5))

    def test_unknown_objects_are_not_compared(self):
        self.assertFalse(Ternary.is_digit(Thing()))


class FarBeyondTest(unittest.TestCase):
    def test_numbers_of_more_digits_than_the_document_asks_for(self):
        for power in (1023, 1024, 1025, 2048, 4300, 5000, 9000):
            great = 3 ** power
            self.assertEqual(base.base_member(2 ** power), great)
            self.assertEqual(base.base_member(2 ** power - 1), (great - 1) // 2)
            self.assertEqual(base.base_rank(great), 2 ** power)
            self.assertEqual(base.last_base(great - 1), (great - 1) // 2)
            self.assertEqual(base.next_base((great - 1) // 2), great)
            self.assertEqual(base.plain_pair(great - 1), (0, (great - 1) // 2))
            self.assertEqual(base.join(great, 1, (great - 1) // 2), (3 * great - 1) // 2)
            self.assertEqual(base.difference_pair(1 - great), (1, great))


if __name__ == "__main__":
    unittest.main()
