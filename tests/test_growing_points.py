"""Points [60] to [65] against their definitions, also for long runs of changes."""

import itertools
import unittest

from tests.support import (
    GREAT_NUMBERS,
    SMALL_CELLS,
    Checks,
    Chooser,
    plain_greedy,
    plain_pairs,
    plain_ruled,
    plain_triples,
)
from triplefree.cells import Cell
from triplefree.errors import NotRuled, NothingToUndo, Refused
from triplefree.greedy import GreedySequence
from triplefree.growing import Growing, LoggedGrowing
from triplefree.ruled import RuledSequence

STARTS = [row for size in (1, 2, 3) for row in itertools.combinations(range(6), size) if not plain_triples(row)]
FREE_SETS = [row for size in range(1, 6) for row in itertools.combinations(range(11), size) if not plain_triples(row)]


class Model:
    """A growing set by the words of the points."""

    def __init__(self, start):
        self.members = list(start)
        self.position = start[-1]
        self.reserved = set()
        self.forbidden = set()
        self.kinds = {x: "member" if x in start else "skipped" for x in range(start[-1] + 1)}
        self.certificates = {x: None for x in range(start[-1] + 1)}

    def copy(self):
        """The same state again."""
        other = Model(self.members)
        other.position = self.position
        other.reserved = set(self.reserved)
        other.forbidden = set(self.forbidden)
        other.kinds = dict(self.kinds)
        other.certificates = dict(self.certificates)
        return other

    def step(self):
        """The step of [61]."""
        x = self.position + 1
        triples = plain_triples([*self.members, *self.reserved, x])
        kind, certificate = "member", None
        if x not in self.reserved:
            if plain_pairs(self.members, x):
                kind, certificate = "covered", plain_pairs(self.members, x)[0]
            elif triples:
                kind, certificate = "blocked", triples[0]
            elif x in self.forbidden:
                kind = "forbidden"
        if kind == "member":
            self.members.append(x)
        self.kinds[x] = kind
        self.certificates[x] = certificate
        self.position = x
        self.reserved.discard(x)
        self.forbidden.discard(x)

    def edit(self, name, numbers):
        """The reason for which the edits are refused, or None and the edits are made."""
        reserved, forbidden = set(self.reserved), set(self.forbidden)
        for number in numbers:
            if number <= self.position:
                return "decided"
            if name == "release":
                if number not in reserved | forbidden:
                    return "absent"
                reserved.discard(number)
                forbidden.discard(number)
                continue
            if number in reserved:
                return "reserved"
            if number in forbidden:
                return "forbidden"
            if name == "forbid":
                forbidden.add(number)
                continue
            triples = [row for row in plain_triples([*self.members, *reserved, number]) if number in row]
            if triples:
                return triples[0]
            reserved.add(number)
        self.reserved, self.forbidden = reserved, forbidden
        return None

    def state(self):
        """What can be seen, in the form of the function state_of."""
        decided = range(self.position + 1)
        return (
            self.position,
            tuple(sorted(self.reserved)),
            tuple(sorted(self.forbidden)),
            len(self.members),
            [self.kinds[x] for x in decided],
            [self.certificates[x] for x in decided],
            [x in self.members for x in decided],
        )


def state_of(growing):
    """What can be seen of a growing set, but not its changes."""
    decided = range(growing.position + 1)
    return (
        growing.position,
        growing.reserved,
        growing.forbidden,
        len(growing),
        [growing.kind(x) for x in decided],
        [growing.certificate(x) for x in decided],
        [growing.is_member(x) for x in decided],
    )


class RunTest(unittest.TestCase, Checks):
    def change(self, growing, model, source):
        """One change of both, chosen by the source; True if there was one."""
        word = source.one_of(("grow", "grow_to", "reserve", "reserve", "forbid", "forbid", "release"))
        count = source.below(4)
        if word in ("grow", "grow_to"):
            before = len(model.members)
            for _ in range(count):
                model.step()
            wanted = tuple(model.members[before:])
            found = growing.grow(count) if word == "grow" else growing.grow_to(growing.position + count)
            self.same(found, wanted)
            return True
        low = max(0, growing.position - 1)
        numbers = [low + source.below(27) for _ in range(count)]
        reason = model.edit(word, numbers)
        if reason is None:
            self.assertIsNone(getattr(growing, word)(*numbers))
            return True
        self.fails(Refused, {"reason": reason}, getattr(growing, word), *numbers)
        return False

    def test_runs(self):
        for seed in range(60):
            source = Chooser(seed)
            start = source.one_of(STARTS)
            growing = source.one_of((Growing, LoggedGrowing))(start)
            model = Model(start)
            past = []
            for _ in range(30):
                before = model.copy()
                if source.below(5) == 0:
                    if past:
                        model = past.pop()
                        growing.undo()
                    else:
                        self.fails(NothingToUndo, {}, growing.undo)
                elif self.change(growing, model, source):
                    past.append(before)
                if source.below(6) == 0:
                    growing = growing.copy()
                self.assertEqual(state_of(growing), model.state())
                self.same(growing.change_count, len(past))
                self.check_free(growing, model)
            self.check_walk(growing, model)

    def check_free(self, growing, model):
        """Point [60]: the members and the reserved numbers are free, and the other numbers stand behind the position."""
        self.assertEqual(plain_triples([*model.members, *growing.reserved]), [])
        self.assertTrue(all(x > growing.position for x in growing.reserved + growing.forbidden))
        self.assertEqual(set(growing.reserved) & set(growing.forbidden), set())

    def check_walk(self, growing, model):
        """walk yields what the model would add."""
        later = model.copy()
        for _ in range(20):
            later.step()
        self.assertEqual(list(itertools.islice(growing.walk(), len(later.members))), later.members)


class Point61Test(unittest.TestCase, Checks):
    def test_each_kind(self):
        for start in STARTS:
            for reserved in itertools.combinations(range(start[-1] + 2, start[-1] + 9), 2):
                growing = Growing(start)
                model = Model(start)
                reason = model.edit("reserve", reserved)
                if reason is not None:
                    self.fails(Refused, {"reason": reason}, growing.reserve, *reserved)
                    continue
                growing.reserve(*reserved)
                numbers = [x for x in (start[-1] + 1, start[-1] + 10) if x not in reserved]
                model.edit("forbid", numbers)
                growing.forbid(*numbers)
                for _ in range(12):
                    model.step()
                growing.grow(12)
                self.assertEqual(state_of(growing), model.state())

    def test_a_covered_number_is_not_blocked(self):
        # 2 is covered by (0, 1), and it is also between 1 and 3.
        growing = Growing((0, 1))
        growing.reserve(3)
        growing.forbid(2)
        growing.grow(1)
        self.same(growing.kind(2), "covered")
        self.same(growing.certificate(2), (0, 1))

    def test_a_blocked_number_is_not_forbidden(self):
        growing = Growing((0,))
        growing.reserve(8)
        growing.forbid(4)
        growing.grow(4)
        self.same(growing.kind(4), "blocked")
        self.same(growing.forbidden, ())
        self.same(growing.certificate(4), (0, 4, 8))

    def test_two_reserved_numbers_block(self):
        growing = Growing((0,))
        growing.reserve(9, 14)
        growing.grow(12)
        self.same(growing.kind(4), "blocked")
        self.same(growing.certificate(4), (4, 9, 14))

    def test_great_reserved_numbers(self):
        for number in GREAT_NUMBERS:
            growing = Growing((0, 1))
            growing.reserve(2 * number)
            self.fails(Refused, {"reason": (0, number, 2 * number)}, growing.reserve, number)
            self.fails(Refused, {"reason": (0, 2 * number, 4 * number)}, growing.reserve, 4 * number)
            self.fails(Refused, {"reason": (1, 2 * number, 4 * number - 1)}, growing.reserve, 4 * number - 1)
            triple = (2 * number, 2 * number + 1, 2 * number + 2)
            self.fails(Refused, {"reason": triple}, growing.reserve, 2 * number + 1, 2 * number + 2)
            self.same(growing.reserved, (2 * number,))


class Point62Test(unittest.TestCase, Checks):
    def test_a_blocked_number_keeps_its_certificate(self):
        growing = Growing((0,))
        growing.reserve(6, 7)
        growing.grow(3)
        self.same(growing.certificate(3), (0, 3, 6))
        growing.release(6)
        growing.grow(20)
        self.same(growing.certificate(3), (0, 3, 6))
        self.same(growing.kind(3), "blocked")
        self.same(growing.is_member(6), False)

    def test_the_smallest_of_several(self):
        # 4 is between 0 and 8, between 1 and 7, and the first number of (4, 7, 10), if these are reserved.
        growing = Growing((0, 1))
        growing.reserve(7, 8, 10)
        growing.grow(3)
        self.same(growing.certificate(4), (0, 4, 8))
        growing.undo()
        growing.release(8)
        growing.grow(3)
        self.same(growing.certificate(4), (1, 4, 7))

    def test_other_kinds_have_none(self):
        growing = Growing((0, 7))
        growing.forbid(8)
        growing.grow(3)
        for x, kind in ((0, "member"), (3, "skipped"), (7, "member"), (8, "forbidden"), (9, "member")):
            self.same(growing.kind(x), kind)
            self.assertIsNone(growing.certificate(x))


class Point63Test(unittest.TestCase, Checks):
    def test_every_reserved_number_becomes_a_member(self):
        for seed in range(30):
            source = Chooser(seed)
            growing = Growing((0,))
            reserved = []
            for _ in range(15):
                number = 1 + source.below(119)
                try:
                    growing.reserve(number)
                except Refused:
                    continue
                reserved.append(number)
            members = (0,) + growing.grow_to(120)
            self.assertTrue(set(reserved) <= set(members))
            self.assertEqual(plain_triples(members), [])

    def test_the_order_has_no_influence(self):
        edits = [("reserve", 9), ("reserve", 14), ("forbid", 6), ("forbid", 3), ("reserve", 16)]
        results = []
        for rows in itertools.permutations(edits):
            growing = Growing((0, 1))
            for name, number in rows:
                getattr(growing, name)(number)
            results.append(growing.grow_to(60))
        self.assertEqual(len(set(results)), 1)

    def test_without_edits_it_is_greedy(self):
        for start in STARTS:
            growing = Growing(start)
            growing.grow_to(90)
            self.assertEqual([x for x in range(91) if growing.is_member(x)], plain_greedy(start, 90))
            sequence = GreedySequence(start)
            for x in range(start[-1] + 1, 91):
                if growing.kind(x) == "covered":
                    self.same(growing.certificate(x), sequence.cover(x))
                else:
                    self.same(growing.kind(x), "member")


class Point64Test(unittest.TestCase, Checks):
    def test_reaching(self):
        for numbers in FREE_SETS[::3]:
            growing = Growing.reaching(numbers)
            open_numbers = [x for x in range(numbers[0], numbers[-1]) if x not in numbers and not plain_pairs(numbers, x)]
            forbidden = [x for x in range(growing.position + 1) if growing.kind(x) == "forbidden"]
            self.assertEqual(forbidden, open_numbers)
            plain = Growing(numbers[:1])
            plain.forbid(*open_numbers)
            plain.grow_to(numbers[-1])
            self.assertEqual(state_of(growing), state_of(plain))
            self.assertEqual(growing, plain)
            growing.grow(30)
            plain.grow(30)
            self.assertEqual(state_of(growing), state_of(plain))

    def test_fewer_prohibitions_do_not_reach_it(self):
        for numbers in FREE_SETS[::40]:
            open_numbers = [x for x in range(numbers[0], numbers[-1]) if x not in numbers and not plain_pairs(numbers, x)]
            for left in open_numbers:
                growing = Growing(numbers[:1])
                growing.forbid(*[x for x in open_numbers if x != left])
                growing.grow_to(numbers[-1])
                self.assertNotEqual(growing, Growing.reaching(numbers))


class Point65Test(unittest.TestCase, Checks):
    def test_tails_of_cells(self):
        for modulus, members in SMALL_CELLS:
            growing = Growing(members)
            if growing.position < modulus - 1:
                self.fails(NotRuled, {"limit": modulus}, growing.tail, modulus)
                growing.grow_to(modulus - 1)
            tail = growing.tail(modulus)
            self.same(tail, RuledSequence(Cell(modulus, members)))
            wanted = plain_ruled(modulus, members, 400)
            self.assertEqual(list(itertools.islice(tail.walk(), len(wanted))), wanted)
            self.assertEqual(list(itertools.islice(growing.walk(), len(wanted))), wanted)
            for number in GREAT_NUMBERS:
                self.same(tail.contains(tail.member(number)), True)
            growing.grow(200)
            self.same(growing.tail(modulus), tail)

    def test_by_the_conditions(self):
        for numbers, count in itertools.product(FREE_SETS[::7], (0, 1, 5)):
            growing = Growing.reaching(numbers)
            growing.grow(count)
            members = [x for x in range(growing.position + 1) if growing.is_member(x)]
            for modulus in range(1, growing.position + 4):
                below = [x for x in members if x < modulus]
                right = below != [] and Cell.violation(modulus, below) is None and growing.position >= modulus - 1
                if right and plain_ruled(modulus, below, growing.position + 1) == members:
                    self.same(growing.tail(modulus), RuledSequence(Cell(modulus, below)))
                    later = list(itertools.islice(growing.walk(), len(members) + 20))
                    self.assertEqual(later, plain_ruled(modulus, below, later[-1] + 1))
                else:
                    self.fails(NotRuled, {"limit": modulus}, growing.tail, modulus)


if __name__ == "__main__":
    unittest.main()
