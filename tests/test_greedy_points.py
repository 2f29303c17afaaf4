"""Points [10] to [15] against a plain search by the definition in [10]."""

import itertools
import unittest

from tests.support import is_triple, plain_greedy, plain_pairs, plain_triples
from triplefree.greedy import ClosestSequence, GreedySequence, first_difference

STARTS = [(0,), (0, 2), (0, 3), (4,), (1, 2, 4), (0, 1, 3, 7), (2, 9, 30), (0, 5, 7, 19, 20), (17, 60)]


def free_sets(start, limit):
    """The free sets up to limit that contain the start and nothing else up to its last number."""
    later = range(start[-1] + 1, limit + 1)
    for count in range(len(later) + 1):
        for extra in itertools.combinations(later, count):
            if not plain_triples(start + extra):
                yield set(start + extra)


class GreedyPointsTest(unittest.TestCase):
    def test_point_10_members(self):
        self.assertEqual(plain_greedy((0, 2), 14), [0, 2, 3, 5, 9, 11, 12, 14])
        for start in STARTS:
            sequence = GreedySequence(start)
            self.assertEqual(list(sequence.walk()), plain_greedy(start, sequence.horizon))
            self.assertEqual([sequence.member(n) for n in range(len(start))], list(start))

    def test_point_11_either_a_member_or_covered(self):
        for start in STARTS:
            sequence = GreedySequence(start)
            members = plain_greedy(start, start[-1] + 200)
            self.assertEqual(plain_triples(members), [])
            for x in range(start[-1] + 1, start[-1] + 200):
                self.assertNotEqual(sequence.contains(x), bool(list(sequence.coverings(x))))

    def test_point_11_numbers_before_the_last_one_of_the_start(self):
        for start in STARTS:
            sequence = GreedySequence(start)
            for x in range(start[-1]):
                self.assertEqual(sequence.contains(x), x in start)
                self.assertEqual(list(sequence.coverings(x)), plain_pairs(start, x))

    def test_point_11_widest_and_closest(self):
        for start in STARTS:
            members = plain_greedy(start, start[-1] + 100)
            for x in range(start[-1] + 1, start[-1] + 100):
                if x not in members:
                    pairs = plain_pairs(members, x)
                    widest, closest = GreedySequence(start).cover(x), ClosestSequence(start).cover(x)
                    self.assertEqual((widest, closest), (min(pairs), max(pairs)))
                    self.assertEqual(widest[1] - widest[0], max(z - y for y, z in pairs))
                    self.assertEqual(closest[1] - closest[0], min(z - y for y, z in pairs))

    def test_point_12_bounds(self):
        for start in STARTS:
            last, size = start[-1], len(start)
            beginning = GreedySequence(start).beginning
            self.assertEqual(len(beginning), 40)
            for n in range(size, 40):
                self.assertLessEqual(beginning[n], last + n - size + 1 + n * (n - 1) // 2)
            self.assertLessEqual(beginning[-1], last + 780)

    def test_point_13_continuing_and_shifting(self):
        for start in STARTS:
            sequence = GreedySequence(start)
            for count in (len(start), len(start) + 1, 17, 40):
                longer = sequence.continued(count)
                found = [x for x in longer.walk() if x <= sequence.horizon]
                self.assertEqual(found, list(sequence.walk()))
                self.assertEqual(longer, sequence)
            for shift in (0, 1, 1000):
                moved = sequence.shifted(shift)
                self.assertEqual(list(moved.walk()), [x + shift for x in sequence.walk()])
                self.assertEqual(moved == sequence, shift == 0)

    def test_point_14_first_difference(self):
        for one, other in itertools.product(STARTS, repeat=2):
            first, second = GreedySequence(one), ClosestSequence(other)
            limit = max(one[-1], other[-1]) + 100
            different = set(plain_greedy(one, limit)) ^ set(plain_greedy(other, limit))
            found = first_difference(first, second)
            if not different:
                self.assertIsNone(found)
                self.assertEqual(first, second)
            else:
                x, place = found
                self.assertEqual(x, min(different))
                self.assertTrue((first, second)[place].contains(x))
                self.assertLess(x, (second, first)[place].last)
                self.assertNotEqual(first, second)

    def test_point_15_the_first_free_set(self):
        for start in [(0,), (0, 2), (1, 2, 4), (0, 3)]:
            limit = start[-1] + 11
            greedy = set(x for x in GreedySequence(start).walk() if x <= limit)
            count = 0
            for other in free_sets(start, limit):
                count += 1
                if other != greedy:
                    self.assertIn(min(other ^ greedy), greedy)
            self.assertGreater(count, 50)

    def test_the_definition_of_a_triple(self):
        self.assertTrue(is_triple(0, 1, 2))
        self.assertFalse(is_triple(1, 1, 1))


if __name__ == "__main__":
    unittest.main()
