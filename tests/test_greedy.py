"""The interface of greedy.py: ordinary values, edges and wrong values."""

import unittest

from tests.support import HUGE, Checks, not_integers, not_numbers, plain_base, plain_greedy, plain_pairs
from triplefree.errors import InvalidMembers, InvalidNumber, InvalidStart, IsMember, NotCovered, NotFree, TooLarge
from triplefree.greedy import ClosestSequence, GreedySequence, common_beginning, first_difference, smallest_triple

TOP = 10 ** 6
FORTY = tuple(plain_base(TOP)[:40])
FORTY_AND_TOP = FORTY[:39] + (TOP,)
STARTS = [(0,), (0, 2), (5,), (0, 3), (TOP,), (0, TOP), (TOP - 10, TOP), (3, 4, 11, 40), FORTY, FORTY_AND_TOP]
CLASSES = (GreedySequence, ClosestSequence)
# Numbers far from each other that cover numbers behind the last one, at both ends of what can be asked for.
WIDE_STARTS = [
    (0, 5001, 10000),
    (0, 5001, 10001),
    (0, 6500, 11000),
    (0, 6500, 6501, 11001),
    (0, 500000, 999990),
    (4, 500000, 500003, 998500, 999990),
    (7, 500900, 501500, 999999, TOP),
    (5, 998001, 999000),
]


def horizon_methods(sequence):
    """The methods with a parameter x that answer at once."""
    return {
        "contains": sequence.contains,
        "rank": sequence.rank,
        "next_member": sequence.next_member,
        "cover": sequence.cover,
    }


class ExamplesTest(unittest.TestCase):
    def test_examples_of_the_interface(self):
        self.assertEqual(GreedySequence((0, 2)).member(4), 9)
        self.assertEqual(GreedySequence((0, 2)).cover(13), (5, 9))
        self.assertEqual(ClosestSequence((0, 2)).cover(13), (11, 12))
        self.assertEqual(first_difference(GreedySequence((0,)), GreedySequence((0, 2))), (1, 0))


class StartTest(unittest.TestCase, Checks):
    def wrong_starts(self):
        """Values that are no start, with the index of the error."""
        rows = [(value, None) for value in not_integers() if not isinstance(value, (tuple, list)) or not value]
        rows += [(5, None), (-1, None), ("01", None), (range(3), None), ({0: 1}, None), ({0}, None)]
        rows += [(tuple(plain_base(5000)[:41]), None), ([True] * 41, None), (list(range(1000)), None)]
        for item in [*not_numbers(), TOP + 1, HUGE]:
            rows += [((item,), 0), ([item], 0), ((0, 1, item, 2), 2), ([0, 1, item, item], 2)]
        rows += [((0, 0), 1), ((1, 0), 1), ([3, 5, 4], 2), ((0, 1, 2, 2), 3), ((TOP, TOP + 1), 1)]
        return rows

    def test_wrong_starts(self):
        for made in CLASSES:
            for value, index in self.wrong_starts():
                self.fails(InvalidStart, {"index": index}, made, value)
                self.same(made.is_start(value), False)

    def test_starts_that_are_not_free(self):
        rows = [
            ((0, 1, 2), (0, 1, 2)),
            ([0, 3, 4, 5, 6], (0, 3, 6)),
            ((1, 5, 6, 7, 9), (1, 5, 9)),
            ((2, 5, 9, 10, 13), (5, 9, 13)),
            ((0, 500000, TOP), (0, 500000, TOP)),
        ]
        for made in CLASSES:
            for value, (low, middle, high) in rows:
                fields = {"low": low, "middle": middle, "high": high}
                self.fails(NotFree, fields, made, value)
                self.fails(NotFree, fields, made.of_numbers, *value)
                self.same(made.is_start(value), False)

    def test_a_wrong_item_comes_before_a_triple(self):
        self.fails(InvalidStart, {"index": 3}, GreedySequence, (0, 1, 2, 2))
        self.fails(InvalidStart, {"index": None}, GreedySequence, tuple(range(41)))

    def test_right_starts(self):
        for made in CLASSES:
            for start in STARTS:
                sequence = made(start)
                self.same(sequence.start, start)
                self.assertEqual(made(list(start)).start, start)
                self.assertIs(made(list(start)).start.__class__, tuple)
                self.same(sequence.last, start[-1])
                self.same(sequence.horizon, start[-1] + 2000)
                self.same(made.is_start(start), True)
                self.same(made.is_start(list(start)), True)

    def test_class_values(self):
        for made in CLASSES:
            self.assertEqual((made.MAX_START, made.MAX_FIRST, made.REACH), (40, TOP, 2000))

    def test_of_numbers(self):
        for made in CLASSES:
            self.assertIs(made.of_numbers(0, 2).__class__, made)
            self.same(made.of_numbers(0, 2).start, (0, 2))
            self.fails(InvalidStart, {"index": None}, made.of_numbers)
            self.fails(InvalidStart, {"index": 1}, made.of_numbers, 0, "2")
            self.fails(InvalidStart, {"index": 0}, made.of_numbers, (0, 2))
            self.fails(InvalidStart, {"index": None}, made.of_numbers, *range(41))

    def test_a_list_is_not_kept(self):
        numbers = [0, 2]
        sequence = GreedySequence(numbers)
        self.assertEqual(numbers, [0, 2])
        numbers.append(3)
        numbers[0] = 1
        self.assertEqual(sequence.start, (0, 2))
        self.assertEqual(sequence, GreedySequence((0, 2)))
        self.assertEqual(sequence.member(0), 0)
        wrong = [0, 1, 2]
        self.fails(NotFree, {"low": 0}, GreedySequence, wrong)
        GreedySequence.is_start(wrong)
        self.assertEqual(wrong, [0, 1, 2])


class MembersTest(unittest.TestCase, Checks):
    def test_members_against_a_plain_search(self):
        for start in STARTS:
            sequence = GreedySequence(start)
            members = plain_greedy(start, sequence.horizon)
            self.assertEqual(list(sequence.walk()), members)
            self.same(sequence.beginning, tuple(members[:40]))
            for n, x in enumerate(members):
                self.same(sequence.member(n), x)
            self.fails(TooLarge, {"limit": 2000}, sequence.member, len(members))
            self.fails(TooLarge, {"limit": 2000}, sequence.member, HUGE)

    def test_wide_starts(self):
        for start in WIDE_STARTS:
            members = plain_greedy(start, start[-1] + 2000)
            sequence = GreedySequence(start)
            self.assertEqual(list(sequence.walk()), members)
            self.assertEqual(sequence.beginning, tuple(members[:40]))
            self.same(sequence.contains(sequence.horizon), sequence.horizon in members)
            self.assertEqual([x for x in range(start[-1], start[-1] + 2001) if sequence.contains(x)],
                             [x for x in members if x >= start[-1]])

    def test_the_order_of_questions_has_no_influence(self):
        for start in [(0, 2), (0, 6500, 11000), FORTY]:
            members = plain_greedy(start, start[-1] + 2000)
            for x in [start[-1] + 1, start[-1] + 700, start[-1] + 2000]:
                sequence = GreedySequence(start)
                walk = sequence.walk()
                self.assertEqual(next(walk), members[0])
                self.same(sequence.rank(x), len([y for y in members if y < x]))
                self.same(sequence.contains(x), x in members)
                self.same(sequence.beginning, tuple(members[:40]))
                self.assertEqual(sequence, GreedySequence(members[:40]) if members[39] <= TOP else sequence)
                self.same(sequence.member(len(start)), members[len(start)])
                self.same(sequence.contains(start[-1] + 3), start[-1] + 3 in members)
                self.assertEqual([members[0], *walk], members)

    def test_wrong_member_numbers(self):
        for value in not_numbers():
            self.fails(InvalidNumber, {"given": value}, GreedySequence((0, 2)).member, value)

    def test_contains_rank_and_next_member(self):
        for start in [(0,), (0, 2), (3, 4, 11, 40), (TOP - 10, TOP)]:
            sequence = GreedySequence(start)
            members = list(sequence.walk())
            places = [0, *range(sequence.last - 45 if sequence.last > 45 else 0, sequence.last + 300), sequence.horizon]
            for x in places:
                self.same(sequence.contains(x), x in members)
                self.same(sequence.rank(x), len([y for y in members if y < x]))
                later = [y for y in members if y > x]
                if later:
                    self.same(sequence.next_member(x), later[0])
                else:
                    self.fails(TooLarge, {"limit": 2000}, sequence.next_member, x)

    def test_the_horizon(self):
        for made in CLASSES:
            for start in STARTS:
                sequence = made(start)
                top = sequence.horizon
                self.same(sequence.contains(top), top in plain_greedy(start, top))
                self.fails(TooLarge, {"limit": 2000}, sequence.next_member, top)
                for x in (top + 1, HUGE):
                    for call in horizon_methods(sequence).values():
                        self.fails(InvalidNumber, {"given": x}, call, x)
                    self.fails(InvalidNumber, {"given": x}, sequence.check_cover, x, (0, 1))
                    self.fails_at_first_item(InvalidNumber, {"given": x}, sequence.coverings, x)

    def test_a_member_at_the_horizon(self):
        found = 0
        for a in range(1, 60):
            sequence = GreedySequence((0, a))
            if sequence.contains(sequence.horizon):
                found += 1
                count = sequence.rank(sequence.horizon)
                self.assertEqual(sequence.member(count), sequence.horizon)
                self.assertEqual(sequence.next_member(sequence.horizon - 1), sequence.horizon)
                self.assertEqual(list(sequence.walk())[-1], sequence.horizon)
        self.assertGreater(found, 0)

    def test_wrong_numbers(self):
        for made in CLASSES:
            sequence = made((0, 2))
            for value in not_numbers():
                for call in horizon_methods(sequence).values():
                    self.fails(InvalidNumber, {"given": value}, call, value)
                self.fails(InvalidNumber, {"given": value}, sequence.check_cover, value, (0, 1))
                self.fails_at_first_item(InvalidNumber, {"given": value}, sequence.coverings, value)
                self.fails_at_first_item(InvalidNumber, {"given": value}, sequence.walk, value)

    def test_walk(self):
        sequence = GreedySequence((0, 2))
        members = list(sequence.walk())
        self.assertEqual(list(sequence.walk(0)), members)
        self.assertEqual(list(sequence.walk(7)), members[7:])
        self.assertEqual(list(sequence.walk(len(members) - 1)), members[-1:])
        self.assertEqual(list(sequence.walk(len(members))), [])
        self.assertEqual(list(sequence.walk(HUGE)), [])
        self.assertEqual(members[:8], [0, 2, 3, 5, 9, 11, 12, 14])
        self.assertLessEqual(members[-1], sequence.horizon)


class CoveringsTest(unittest.TestCase, Checks):
    def test_against_all_pairs(self):
        for start in [(0,), (0, 2), (3, 4, 11, 40), (0, 3, 100)]:
            wide, close = GreedySequence(start), ClosestSequence(start)
            members = list(wide.walk())
            for x in [*range(150), wide.last + 500, wide.horizon]:
                pairs = plain_pairs([m for m in members if m < x], x)
                self.assertEqual(list(wide.coverings(x)), pairs)
                self.assertEqual(list(close.coverings(x)), pairs[::-1])
                if x in members:
                    self.assertEqual(pairs, [])
                    self.fails(IsMember, {"given": x}, wide.cover, x)
                    self.fails(IsMember, {"given": x}, close.cover, x)
                elif pairs:
                    self.same(wide.cover(x), min(pairs))
                    self.same(close.cover(x), max(pairs))
                else:
                    self.assertLess(x, start[-1])
                    self.fails(NotCovered, {"given": x}, wide.cover, x)
                    self.fails(NotCovered, {"given": x}, close.cover, x)

    def test_numbers_before_the_last_one_of_the_start(self):
        sequence = GreedySequence((0, 2, 100))
        self.assertEqual(list(sequence.coverings(4)), [(0, 2)])
        self.same(sequence.cover(4), (0, 2))
        self.assertEqual(list(sequence.coverings(99)), [])
        self.fails(NotCovered, {"given": 99}, sequence.cover, 99)
        self.fails(IsMember, {"given": 2}, sequence.cover, 2)
        far = GreedySequence((0, TOP))
        self.fails(NotCovered, {"given": TOP - 1}, far.cover, TOP - 1)
        self.fails(NotCovered, {"given": 1}, far.cover, 1)

    def test_check_cover(self):
        for made in CLASSES:
            sequence = made((0, 2))
            for pair in [(5, 9), (11, 12)]:
                self.same(sequence.check_cover(13, pair), True)
            wrong = [(9, 5), (11, 12, 13), (5,), (), [5, 9], [11, 12], (7, 10), (1, 7), (13, 13), (5, 11), (-1, 6)]
            wrong += [(5, "9"), ("5", 9), (5, 9.0), (None, None), ((5, 9),), (5, [9]), ([5], 9), "59", {5: 9}]
            wrong += [(-HUGE, HUGE), (HUGE, HUGE), (0, object())]
            for pair in wrong + not_numbers():
                self.same(sequence.check_cover(13, pair), False)

    def test_check_cover_counts_all_pairs(self):
        sequence = GreedySequence((0, 2))
        for x in range(40):
            pairs = list(sequence.coverings(x))
            for y in range(40):
                for z in range(40):
                    self.same(sequence.check_cover(x, (y, z)), (y, z) in pairs)

    def test_true_and_false_are_no_members(self):
        sequence = GreedySequence((0, 1))
        self.same(sequence.check_cover(2, (0, 1)), True)
        self.same(sequence.check_cover(2, (False, True)), False)
        self.same(sequence.check_cover(2, (0, True)), False)
        self.same(sequence.check_cover(2, (False, 1)), False)

    def test_members_have_no_pair(self):
        sequence = GreedySequence((0, 2))
        for x in sequence.walk():
            self.assertEqual(list(sequence.coverings(x)), [])
            self.same(sequence.check_cover(x, (x, x)), False)

    def test_the_number_is_examined_before_the_pair(self):
        self.fails(InvalidNumber, {"given": "13"}, GreedySequence((0, 2)).check_cover, "13", None)

    def test_pairs_are_tuples(self):
        for made in CLASSES:
            for pair in made((0, 2)).coverings(13):
                self.assertIs(pair.__class__, tuple)


class NewSequencesTest(unittest.TestCase, Checks):
    def test_continued(self):
        for made in CLASSES:
            for start in [(0,), (0, 2), (3, 4, 11, 40), FORTY]:
                sequence = made(start)
                for count in range(len(start), 41):
                    longer = sequence.continued(count)
                    self.assertIs(longer.__class__, made)
                    self.same(longer.start, sequence.beginning[:count])
                    self.assertEqual(longer, sequence)

    def test_continued_with_a_wrong_count(self):
        sequence = GreedySequence((0, 2, 3))
        for value in [*not_numbers(), 0, 1, 2, 41, HUGE]:
            self.fails(InvalidNumber, {"given": value}, sequence.continued, value)

    def test_continued_behind_the_greatest_first_number(self):
        sequence = GreedySequence((TOP - 4,))
        self.assertEqual(sequence.continued(4).start, (TOP - 4, TOP - 3, TOP - 1, TOP))
        self.fails(TooLarge, {"limit": TOP}, sequence.continued, 5)
        self.fails(InvalidNumber, {"given": 41}, sequence.continued, 41)
        self.assertEqual(GreedySequence((TOP,)).continued(1).start, (TOP,))
        self.fails(TooLarge, {"limit": TOP}, GreedySequence((TOP,)).continued, 2)

    def test_shifted(self):
        for made in CLASSES:
            moved = made((0, 2)).shifted(TOP - 2)
            self.assertIs(moved.__class__, made)
            self.same(moved.start, (TOP - 2, TOP))
            self.assertEqual(made((0, 2)).shifted(0).start, (0, 2))
            self.fails(TooLarge, {"limit": TOP}, made((0, 2)).shifted, TOP - 1)
            self.fails(TooLarge, {"limit": TOP}, made((0, 2)).shifted, HUGE)
            for value in not_numbers():
                self.fails(InvalidNumber, {"given": value}, made((0, 2)).shifted, value)
                self.fails(InvalidNumber, {"given": value}, made((TOP,)).shifted, value)

    def test_nothing_changes(self):
        sequence = GreedySequence((0, 2))
        members = list(sequence.walk())
        sequence.continued(9)
        sequence.shifted(9)
        self.fails(TooLarge, {"limit": TOP}, sequence.shifted, TOP)
        self.assertEqual(sequence.start, (0, 2))
        self.assertEqual(list(sequence.walk()), members)

    def test_subclass(self):
        class Special(ClosestSequence):
            pass

        sequence = Special.of_numbers(0, 2)
        for made in (sequence, sequence.continued(5), sequence.shifted(5)):
            self.assertIs(made.__class__, Special)


class EqualityTest(unittest.TestCase):
    def test_equal_sequences(self):
        for one in CLASSES:
            for other in CLASSES:
                self.assertTrue(one((0, 2)) == other([0, 2, 3]))
                self.assertFalse(one((0, 2)) != other((0, 2, 3)))
                self.assertFalse(one((0, 2)) == other((0, 3)))
                self.assertTrue(one((0, 2)) != other((0,)))

    def test_nothing_else_is_equal(self):
        sequence = GreedySequence((0, 2))
        for other in (None, 0, (0, 2), [0, 2], "0 2 ..", sequence.beginning, object(), True):
            self.assertFalse(sequence == other)
            self.assertTrue(sequence != other)

    def test_a_difference_at_the_last_place_of_the_beginning(self):
        one = GreedySequence(FORTY)
        other = GreedySequence(FORTY_AND_TOP)
        self.assertNotEqual(one, other)
        self.assertEqual(first_difference(one, other), (FORTY[39], 0))

    def test_str(self):
        for made in CLASSES:
            self.assertEqual(str(made((0, 2))), "0 2 ..")
            self.assertEqual(str(made([TOP])), "1000000 ..")


class FunctionsTest(unittest.TestCase, Checks):
    def test_first_difference(self):
        base, other = GreedySequence((0,)), ClosestSequence((0, 2))
        self.assertEqual(first_difference(base, other), (1, 0))
        self.assertEqual(first_difference(other, base), (1, 1))
        self.assertIsNone(first_difference(base, base))
        self.assertIsNone(first_difference(base, ClosestSequence(FORTY)))
        self.assertEqual(first_difference(GreedySequence((TOP,)), base), (0, 1))

    def test_first_difference_with_wrong_values(self):
        sequence = GreedySequence((0,))
        for value in [*not_numbers(), 0, (0,), GreedySequence]:
            self.fails(InvalidMembers, {"index": 0}, first_difference, value, sequence)
            self.fails(InvalidMembers, {"index": 1}, first_difference, sequence, value)
            self.fails(InvalidMembers, {"index": 0}, first_difference, value, value)

    def test_common_beginning(self):
        base, other = GreedySequence((0,)), GreedySequence((0, 1, 3, 7))
        self.same(common_beginning(base), FORTY)
        self.same(common_beginning(base, ClosestSequence((0, 1))), FORTY)
        self.same(common_beginning(base, other), (0, 1, 3))
        self.same(common_beginning(base, other, GreedySequence((0, 2))), (0,))
        self.same(common_beginning(GreedySequence((0, 2)), other, base), (0,))
        self.same(common_beginning(base, GreedySequence((1,))), ())
        self.same(common_beginning(other, base, base), (0, 1, 3))

    def test_common_beginning_with_wrong_values(self):
        sequence = GreedySequence((0,))
        self.fails(InvalidMembers, {"index": None}, common_beginning)
        for value in [*not_numbers(), 0, (0,), [sequence]]:
            self.fails(InvalidMembers, {"index": 0}, common_beginning, value)
            self.fails(InvalidMembers, {"index": 1}, common_beginning, sequence, value, sequence, None)

    def test_smallest_triple(self):
        self.assertIsNone(smallest_triple())
        self.assertIsNone(smallest_triple(5, 5, 5, 5))
        self.assertIsNone(smallest_triple(*FORTY))
        self.same(smallest_triple(4, 2, 0), (0, 2, 4))
        self.same(smallest_triple(9, 8, 7, 0, 5, 10), (0, 5, 10))
        self.same(smallest_triple(6, 3, 0, 1, 0, 2), (0, 1, 2))
        self.same(smallest_triple(HUGE, HUGE - 2, HUGE - 1), (HUGE - 2, HUGE - 1, HUGE))
        for value in not_numbers():
            self.fails(InvalidNumber, {"given": value}, smallest_triple, value)
            self.fails(InvalidNumber, {"given": value}, smallest_triple, 0, 1, value, 2, None)


class ByNameTest(unittest.TestCase, Checks):
    def test_calls_by_name(self):
        for made in CLASSES:
            sequence = made(start=(0, 2))
            self.assertEqual(sequence, made((0, 2)))
            self.same(sequence.member(number=4), sequence.member(4))
            self.same(sequence.contains(x=9), sequence.contains(9))
            self.same(sequence.rank(x=9), sequence.rank(9))
            self.same(sequence.next_member(x=9), sequence.next_member(9))
            self.same(list(sequence.coverings(x=13)), list(sequence.coverings(13)))
            self.same(sequence.cover(x=13), sequence.cover(13))
            self.same(sequence.check_cover(pair=(5, 9), x=13), sequence.check_cover(13, (5, 9)))
            self.same(list(sequence.walk(number=4)), list(sequence.walk(4)))
            self.same(sequence.continued(count=6).start, sequence.continued(6).start)
            self.same(sequence.shifted(shift=6).start, sequence.shifted(6).start)
            self.same(made.is_start(value=(0, 2)), True)
            self.same(first_difference(other=sequence, one=made((0,))), (1, 0))


if __name__ == "__main__":
    unittest.main()
