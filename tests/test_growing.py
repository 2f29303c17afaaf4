"""The interface of growing.py: ordinary values, edges and wrong values."""

import itertools
import unittest

from tests.support import HUGE, Checks, not_integers, not_numbers, plain_base, plain_greedy
from triplefree.cells import Cell
from triplefree.errors import (
    InvalidMembers,
    InvalidModulus,
    InvalidNumber,
    InvalidStart,
    NotFree,
    NothingToUndo,
    NotRuled,
    Refused,
    TooLarge,
)
from triplefree.greedy import GreedySequence
from triplefree.growing import Growing, LoggedGrowing
from triplefree.ruled import RuledSequence

KINDS = (Growing, LoggedGrowing)
EDITS = ("reserve", "forbid", "release")


def state(growing):
    """Everything that can be seen of a growing set."""
    decided = range(growing.position + 1)
    return (
        growing.position,
        growing.reserved,
        growing.forbidden,
        growing.change_count,
        len(growing),
        [growing.kind(x) for x in decided],
        [growing.certificate(x) for x in decided],
        [growing.is_member(x) for x in decided],
        list(itertools.islice(growing.walk(), len(growing) + 20)),
    )


def busy(made=Growing):
    """A growing set with members, reserved and forbidden numbers, and changes to undo."""
    growing = made((0, 2))
    growing.grow(3)
    growing.reserve(20, 23)
    growing.forbid(9, 11, 40)
    growing.grow_to(12)
    return growing


class ExampleTest(unittest.TestCase, Checks):
    def test_example_of_the_interface(self):
        for made in KINDS:
            g = made((0,))
            g.reserve(5)
            self.same(g.grow_to(9), (1, 4, 5))
            self.same(g.kind(3), "blocked")
            self.same(g.certificate(3), (1, 3, 5))


class ConstructorTest(unittest.TestCase, Checks):
    def test_class_values(self):
        for made in KINDS:
            self.assertEqual((made.MAX_STEPS, made.MAX_EDITS), (5000, 200))

    def test_a_new_set(self):
        for made in KINDS:
            for start in ((0,), [0, 2], (3, 4, 7), (999999, 1000000), tuple(plain_base(1000)[:40])):
                growing = made(start)
                self.same(growing.position, start[-1])
                self.same(growing.reserved, ())
                self.same(growing.forbidden, ())
                self.same(growing.change_count, 0)
                self.same(len(growing), len(start))
                self.assertEqual(list(itertools.islice(growing.walk(), len(start))), list(start))
                self.assertEqual(made(start=start), growing)

    def test_wrong_starts(self):
        values = [value for value in not_integers() if not isinstance(value, (tuple, list)) or not value]
        for made in KINDS:
            for value in [*values, 0, range(3), {0}, {0: 1}, tuple(range(41)), GreedySequence((0,))]:
                self.fails(InvalidStart, {"index": None}, made, value)
            for value in [*not_numbers(), 1000001]:
                self.fails(InvalidStart, {"index": 0}, made, (value,))
                self.fails(InvalidStart, {"index": 1}, made, [0, value, None])
            self.fails(InvalidStart, {"index": 2}, made, (0, 3, 3))
            self.fails(NotFree, {"low": 0, "middle": 1, "high": 2}, made, (0, 1, 2))

    def test_a_list_is_not_kept(self):
        start = [0, 2]
        growing = Growing(start)
        start.append(3)
        self.assertEqual(growing.position, 2)
        growing.grow(3)
        self.assertEqual(start, [0, 2, 3])
        self.assertEqual(growing.kind(1), "skipped")

    def test_repr(self):
        self.same(repr(Growing((0,))), "Growing(0)")
        self.same(repr(busy()), "Growing(12)")
        self.same(repr(LoggedGrowing((0, 7))), "LoggedGrowing(7)")
        self.same(repr(busy(LoggedGrowing)), "LoggedGrowing(12)")


class GrowTest(unittest.TestCase, Checks):
    def test_grow(self):
        growing = Growing((0, 2))
        self.same(growing.grow(), (3,))
        self.same(growing.grow(count=2), (5,))
        self.same(growing.grow(0), ())
        self.same(growing.position, 5)
        self.same(growing.grow(6), (9, 11))
        self.same(growing.change_count, 4)

    def test_grow_to(self):
        growing = Growing((0, 2))
        self.same(growing.grow_to(number=12), (3, 5, 9, 11, 12))
        self.same(growing.grow_to(12), ())
        self.same(growing.grow_to(13), ())
        self.same(growing.position, 13)
        self.same(growing.change_count, 3)

    def test_the_most_steps(self):
        one = Growing((0, 4))
        other = Growing((0, 4))
        self.assertEqual(one.grow(5000), other.grow_to(5004))
        self.assertEqual(one, other)
        self.assertEqual(list(itertools.islice(one.walk(), len(one))), plain_greedy((0, 4), 5004))
        other.grow_to(10004)
        self.assertEqual(list(itertools.islice(one.walk(), len(other))), list(itertools.islice(other.walk(), len(other))))
        high = Growing((1000000,))
        high.grow_to(1005000)
        self.same(high.position, 1005000)

    def test_wrong_counts(self):
        growing = busy()
        before = state(growing)
        for value in [*not_numbers(), 5001, HUGE]:
            self.fails(InvalidNumber, {"given": value}, growing.grow, value)
        for value in [*not_numbers(), 0, 11, 5013, HUGE]:
            self.fails(InvalidNumber, {"given": value}, growing.grow_to, value)
        self.assertEqual(state(growing), before)


class EditTest(unittest.TestCase, Checks):
    def test_edits_return_none(self):
        growing = Growing((0,))
        self.assertIsNone(growing.reserve(5, 100))
        self.assertIsNone(growing.forbid(6, 4, HUGE))
        self.same(growing.reserved, (5, 100))
        self.same(growing.forbidden, (4, 6, HUGE))
        self.assertIsNone(growing.release(6, 5))
        self.same(growing.reserved, (100,))
        self.same(growing.forbidden, (4, HUGE))
        self.same(growing.change_count, 3)

    def test_edits_of_nothing_are_changes(self):
        growing = Growing((0,))
        for name in EDITS:
            self.assertIsNone(getattr(growing, name)())
        self.same(growing.change_count, 3)

    def test_invalid_numbers_come_first(self):
        for made in KINDS:
            growing = busy(made)
            before = state(growing)
            for name in EDITS:
                call = getattr(growing, name)
                for value in not_numbers():
                    self.fails(InvalidNumber, {"given": value}, call, value)
                    # 0 is decided, and 41 may be absent, but all kinds of values are examined first.
                    self.fails(InvalidNumber, {"given": value}, call, 0, 41, value, None)
                    self.fails(InvalidNumber, {"given": value}, call, *range(100, 400), value)
            self.assertEqual(state(growing), before)

    def test_decided(self):
        for made in KINDS:
            growing = busy(made)
            before = state(growing)
            for name in EDITS:
                for number in (0, 1, 2, 3, 9, 12):
                    self.fails(Refused, {"reason": "decided"}, getattr(growing, name), number)
                    self.fails(Refused, {"reason": "decided"}, getattr(growing, name), number, 20, 40, 41)
            self.assertEqual(state(growing), before)

    def test_reserved_and_forbidden(self):
        for made in KINDS:
            growing = busy(made)
            before = state(growing)
            for name in ("reserve", "forbid"):
                self.fails(Refused, {"reason": "reserved"}, getattr(growing, name), 20)
                self.fails(Refused, {"reason": "forbidden"}, getattr(growing, name), 40)
                self.fails(Refused, {"reason": "reserved"}, getattr(growing, name), 3 ** 9, 20)
                self.fails(Refused, {"reason": "forbidden"}, getattr(growing, name), 3 ** 9, 40, 0)
            self.fails(Refused, {"reason": "reserved"}, growing.reserve, 3 ** 9, 3 ** 9)
            self.fails(Refused, {"reason": "forbidden"}, growing.forbid, 3 ** 9, 3 ** 9)
            self.assertEqual(state(growing), before)

    def test_absent(self):
        growing = busy()
        before = state(growing)
        for number in (13, 41, HUGE):
            self.fails(Refused, {"reason": "absent"}, growing.release, number)
            self.fails(Refused, {"reason": "absent"}, growing.release, 20, 40, number, 0)
        self.fails(Refused, {"reason": "absent"}, growing.release, 20, 20)
        self.fails(Refused, {"reason": "absent"}, growing.release, 40, 40)
        self.assertEqual(state(growing), before)

    def test_triples(self):
        growing = Growing((0, 4))
        growing.reserve(10)
        before = state(growing)
        rows = [(5, (0, 5, 10)), (7, (4, 7, 10)), (8, (0, 4, 8)), (16, (4, 10, 16)), (20, (0, 10, 20))]
        for number, triple in rows:
            self.fails(Refused, {"reason": triple}, growing.reserve, number)
            # The first numbers of the same call count, too.
            self.fails(Refused, {"reason": triple}, growing.reserve, 100, number, 10)
        self.fails(Refused, {"reason": (10, 11, 12)}, growing.reserve, 11, 12)
        self.fails(Refused, {"reason": (0, 50, 100)}, growing.reserve, 50, 100)
        self.fails(Refused, {"reason": (0, 50, 100)}, growing.reserve, 100, 50)
        self.fails(Refused, {"reason": (90, 100, 110)}, growing.reserve, 100, 110, 90)
        self.fails(Refused, {"reason": (HUGE - 2, HUGE - 1, HUGE)}, growing.reserve, HUGE - 1, HUGE - 2, HUGE)
        self.assertEqual(state(growing), before)

    def test_the_smallest_triple(self):
        growing = Growing((0, 1))
        growing.reserve(9, 10, 27, 28)
        # 18 is the last number of (0, 9, 18), and it is in (8, 18, 28) only if 8 is there.
        self.fails(Refused, {"reason": (0, 9, 18)}, growing.reserve, 18)
        self.fails(Refused, {"reason": (1, 10, 19)}, growing.reserve, 19)
        self.fails(Refused, {"reason": (0, 5, 10)}, growing.reserve, 5)
        self.fails(Refused, {"reason": (0, 14, 28)}, growing.reserve, 14)
        self.fails(Refused, {"reason": (0, 27, 54)}, growing.reserve, 54)
        self.fails(Refused, {"reason": (8, 9, 10)}, growing.reserve, 8)
        self.fails(Refused, {"reason": (26, 27, 28)}, growing.reserve, 26)

    def test_a_reservation_after_a_release(self):
        growing = Growing((0,))
        growing.reserve(10)
        growing.release(10)
        growing.reserve(5, 11)
        growing.forbid(10)
        growing.release(10, 5)
        self.assertEqual((growing.reserved, growing.forbidden), ((11,), ()))

    def test_too_many(self):
        far = [10 ** 6 + x for x in plain_base(3 ** 6)][:64] + [10 ** 9 + x for x in plain_base(3 ** 6)]
        far += [10 ** 12 + x for x in plain_base(3 ** 6)] + [10 ** 15 + x for x in plain_base(3 ** 6)]
        numbers = far[:200]
        growing = Growing((0,))
        growing.reserve(*numbers)
        before = state(growing)
        self.fails(TooLarge, {"limit": 200}, growing.reserve, far[200])
        self.fails(TooLarge, {"limit": 200}, growing.reserve, far[200], 0)
        self.fails(Refused, {"reason": "decided"}, growing.reserve, 0, far[200])
        self.fails(Refused, {"reason": "reserved"}, growing.reserve, far[0], far[200])
        self.assertEqual(state(growing), before)
        growing.forbid(*range(1, 201))
        before = state(growing)
        self.fails(TooLarge, {"limit": 200}, growing.forbid, 201)
        self.fails(Refused, {"reason": "forbidden"}, growing.forbid, 200, 201)
        self.fails(Refused, {"reason": "reserved"}, growing.forbid, far[0], 201)
        self.fails(InvalidNumber, {"given": -1}, growing.forbid, 201, -1)
        self.assertEqual(state(growing), before)
        growing.release(far[0], 7)
        growing.reserve(far[200])
        growing.forbid(7)
        self.assertEqual((len(growing.reserved), len(growing.forbidden)), (200, 200))
        other = Growing((0,))
        self.fails(TooLarge, {"limit": 200}, other.forbid, *range(1, 202))
        self.fails(TooLarge, {"limit": 200}, other.forbid, *range(1, 202), 1)
        self.fails(Refused, {"reason": "forbidden"}, other.forbid, *range(1, 201), 1, 201)
        self.assertEqual(other, Growing((0,)))

    def test_decided_numbers_make_room(self):
        growing = Growing((0,))
        growing.forbid(*range(1, 201))
        growing.grow(1)
        self.same(len(growing.forbidden), 199)
        growing.forbid(201)
        self.same(len(growing.forbidden), 200)
        self.fails(TooLarge, {"limit": 200}, growing.forbid, 202)


class QuestionTest(unittest.TestCase, Checks):
    def test_wrong_numbers(self):
        growing = busy()
        for call in (growing.kind, growing.certificate, growing.is_member):
            for value in [*not_numbers(), 13, 20, HUGE]:
                self.fails(InvalidNumber, {"given": value}, call, value)

    def test_by_name(self):
        growing = busy()
        self.same(growing.kind(number=12), "member")
        self.assertIsNone(growing.certificate(number=12))
        self.same(growing.is_member(number=12), True)

    def test_kinds(self):
        growing = Growing((0, 4))
        growing.reserve(10)
        growing.forbid(9, 11)
        growing.grow_to(12)
        kinds = [growing.kind(x) for x in range(13)]
        wanted = ["member", "skipped", "skipped", "skipped", "member", "blocked", "member", "blocked", "covered"]
        self.assertEqual(kinds, [*wanted, "forbidden", "member", "forbidden", "covered"])
        self.same(growing.certificate(5), (0, 5, 10))
        self.same(growing.certificate(7), (4, 7, 10))
        self.same(growing.certificate(8), (0, 4))
        self.same(growing.certificate(12), (0, 6))

    def test_skipped_numbers_without_certificates(self):
        # 4 is covered by 0 and 2, but less than the last number of the start.
        growing = Growing((0, 2, 7))
        self.same(growing.kind(4), "skipped")
        self.assertIsNone(growing.certificate(4))
        growing = Growing((5,))
        self.assertEqual([growing.kind(x) for x in range(6)], ["skipped"] * 5 + ["member"])


class WalkTest(unittest.TestCase, Checks):
    def test_walk(self):
        growing = busy()
        wanted = busy()
        wanted.grow(200)
        members = [x for x in range(213) if wanted.is_member(x)]
        self.assertEqual(list(itertools.islice(growing.walk(), len(members))), members)

    def test_walk_changes_nothing(self):
        growing = busy()
        before = state(growing)
        list(itertools.islice(growing.walk(), 100))
        self.assertEqual(state(growing), before)

    def test_walks_beside_changes(self):
        for made in KINDS:
            growing = busy(made)
            wanted = list(itertools.islice(growing.walk(), 60))
            changes = [
                lambda: growing.grow(30),
                lambda: growing.undo(),
                lambda: growing.release(20, 40),
                lambda: growing.reserve(1001),
                lambda: growing.forbid(14, 15, 16, 17),
                lambda: growing.undo(),
                lambda: growing.undo(),
                lambda: growing.undo(),
                lambda: growing.undo(),
                lambda: growing.grow_to(500),
            ]
            walks = [growing.walk() for _ in range(3)]
            found = [[next(walk)] for walk in walks]
            for change in changes:
                for walk, items in zip(walks, found):
                    items += itertools.islice(walk, 5)
                change()
            for walk, items in zip(walks, found):
                items += itertools.islice(walk, 60 - len(items))
                self.assertEqual(items, wanted)

    def test_a_walk_begins_with_its_first_item(self):
        growing = Growing((0,))
        walk = growing.walk()
        growing.forbid(1)
        self.assertEqual(list(itertools.islice(walk, 4)), [0, 2, 3, 5])

    def test_without_edits_it_is_the_greedy_sequence(self):
        for start in ((0,), (0, 2), (3, 4, 7)):
            members = plain_greedy(start, 300)
            self.assertEqual(list(itertools.islice(Growing(start).walk(), len(members))), members)


class TailTest(unittest.TestCase, Checks):
    def test_tail(self):
        growing = Growing((0, 3))
        growing.grow_to(8)
        self.same(growing.tail(9), RuledSequence(Cell(9, (0, 3, 4, 7))))
        growing.grow_to(100)
        for modulus in (9, 27, 81):
            self.same(growing.tail(modulus=modulus).cell.modulus, modulus)
        self.same(Growing((0,)).tail(1), RuledSequence(Cell(1, (0,))))

    def test_wrong_moduli(self):
        growing = busy()
        for value in [*not_numbers(), 0, 20001, HUGE]:
            self.fails(InvalidModulus, {"given": value}, growing.tail, value)

    def test_not_ruled(self):
        growing = Growing((0, 3))
        growing.grow_to(7)
        # The position is one less than it should be.
        self.fails(NotRuled, {"limit": 9}, growing.tail, 9)
        growing.grow(1)
        for modulus in (1, 2, 3, 4, 8, 10, 27, 20000):
            self.fails(NotRuled, {"limit": modulus}, growing.tail, modulus)
        for edit in (growing.reserve, growing.forbid):
            edit(10 ** 9 + 2)
            self.fails(NotRuled, {"limit": 9}, growing.tail, 9)
            growing.undo()
            self.same(growing.tail(9), RuledSequence(Cell(9, (0, 3, 4, 7))))

    def test_no_members_below(self):
        growing = Growing((5,))
        growing.grow(20)
        for modulus in (1, 2, 5):
            self.fails(NotRuled, {"limit": modulus}, growing.tail, modulus)

    def test_other_members_behind(self):
        growing = Growing((0,))
        growing.forbid(9)
        growing.grow_to(8)
        growing.grow_to(30)
        # The members below 9 form a cell, but 9 is missing, or another number is a member.
        self.assertEqual(growing.forbidden, ())
        self.fails(NotRuled, {"limit": 9}, growing.tail, 9)
        growing = Growing((0, 1, 3, 4, 11))
        growing.grow(1)
        self.fails(NotRuled, {"limit": 9}, growing.tail, 9)

    def test_members_of_the_sequence_that_are_missing(self):
        # All members are those of the sequence, but 9 is not among them.
        growing = Growing((0,))
        growing.forbid(9)
        growing.grow_to(8)
        growing.release(9)
        self.same(growing.tail(9), RuledSequence(Cell.base(digits=2)))
        growing.undo()
        growing.grow_to(9)
        self.same(growing.forbidden, ())
        self.fails(NotRuled, {"limit": 9}, growing.tail, 9)
        growing = Growing((0,))
        growing.forbid(1)
        growing.grow(1)
        self.fails(NotRuled, {"limit": 1}, growing.tail, 1)

    def test_many_members(self):
        growing = Growing((0,))
        for _ in range(4):
            growing.grow(5000)
        # Below 19683 are 512 members, more than a cell can have.
        self.fails(NotRuled, {"limit": 19683}, growing.tail, 19683)
        self.same(growing.tail(6561), RuledSequence(Cell.base(digits=8)))


class ReachingTest(unittest.TestCase, Checks):
    def test_reaching(self):
        for made in KINDS:
            for numbers in ((0,), [7], (0, 1, 5), [3, 10, 11], (0, 5000), (1000000,), (995000, 1000000)):
                growing = made.reaching(numbers)
                self.assertIs(growing.__class__, made)
                self.same(growing.position, numbers[-1])
                self.same(growing.change_count, 0)
                self.same((growing.reserved, growing.forbidden), ((), ()))
                self.assertEqual(list(itertools.islice(growing.walk(), len(numbers))), list(numbers))
                self.same(len(growing), len(numbers))
                self.fails(NothingToUndo, {}, growing.undo)
                self.assertEqual(made.reaching(numbers=numbers), growing)

    def test_the_argument_is_not_kept(self):
        numbers = [0, 5]
        growing = Growing.reaching(numbers)
        numbers.append(6)
        growing.grow(5)
        self.assertEqual(numbers, [0, 5, 6])
        self.assertEqual(growing.kind(0), "member")

    def test_two_hundred_numbers(self):
        numbers = plain_base(5000)[:200]
        self.assertEqual(len(Growing.reaching(numbers)), 200)
        self.fails(InvalidMembers, {"index": None}, Growing.reaching, plain_base(5000)[:201])

    def test_more_prohibitions_than_a_set_can_have(self):
        growing = Growing.reaching((0, 5000))
        kinds = [growing.kind(x) for x in range(5001)]
        self.assertEqual(kinds, ["member"] + ["forbidden"] * 4999 + ["member"])

    def test_no_list(self):
        values = [value for value in not_integers() if not isinstance(value, (tuple, list)) or not value]
        for value in [*values, 0, range(3), {0: 1}, {0}, iter((0, 1)), [None] * 201]:
            self.fails(InvalidMembers, {"index": None}, Growing.reaching, value)

    def test_wrong_items(self):
        for value in [*not_numbers(), 1000001, HUGE]:
            self.fails(InvalidMembers, {"index": 0}, Growing.reaching, (value,))
            self.fails(InvalidMembers, {"index": 1}, Growing.reaching, [0, value, None])
        for value in [0, 3, 5004]:
            self.fails(InvalidMembers, {"index": 1}, Growing.reaching, (3, value))
        self.fails(InvalidMembers, {"index": 2}, Growing.reaching, (3, 5003, 5004))
        # All items are examined before triples.
        self.fails(InvalidMembers, {"index": 3}, Growing.reaching, (0, 1, 2, 2))
        self.assertEqual(Growing.reaching((3, 5003)).position, 5003)

    def test_not_free(self):
        self.fails(NotFree, {"low": 0, "middle": 1, "high": 2}, Growing.reaching, (0, 1, 2, 5))
        self.fails(NotFree, {"low": 0, "middle": 9, "high": 18}, Growing.reaching, [0, 4, 9, 10, 16, 18])

    def test_first_triple(self):
        for made in KINDS:
            self.same(made.first_triple((4, 2, 0)), (0, 2, 4))
            self.same(made.first_triple([HUGE, HUGE - 2, HUGE - 1]), (HUGE - 2, HUGE - 1, HUGE))
            self.same(made.first_triple(numbers=(9, 5, 1, 8, 7, 5)), (1, 5, 9))
            for value in ((), [], (5,), (5, 5, 5), (0, 1, 3, 4), [3, 0, 4]):
                self.assertIsNone(made.first_triple(value))

    def test_first_triple_of_wrong_values(self):
        values = [value for value in not_integers() if not isinstance(value, (tuple, list))]
        for value in [*values, 0, range(3), {0: 1}, {0}, Growing((0,))]:
            self.fails(InvalidMembers, {"index": None}, Growing.first_triple, value)
        for value in not_numbers():
            self.fails(InvalidMembers, {"index": 0}, Growing.first_triple, (value,))
            self.fails(InvalidMembers, {"index": 2}, Growing.first_triple, [0, 1, value, None])


class UndoTest(unittest.TestCase, Checks):
    def test_each_kind_of_change(self):
        for made in KINDS:
            growing = busy(made)
            changes = [
                lambda: growing.grow(),
                lambda: growing.grow(0),
                lambda: growing.grow(30),
                lambda: growing.grow_to(growing.position),
                lambda: growing.grow_to(growing.position + 25),
                lambda: growing.reserve(301, 302),
                lambda: growing.reserve(),
                lambda: growing.forbid(300),
                lambda: growing.forbid(),
                lambda: growing.release(300, 301),
                lambda: growing.release(),
                lambda: growing.grow(300),
            ]
            states = [state(growing)]
            for change in changes:
                change()
                states.append(state(growing))
            self.assertEqual([row[3] for row in states], list(range(4, 17)))
            for before in reversed(states):
                self.assertEqual(state(growing), before)
                self.assertIsNone(growing.undo())
            for _ in range(3):
                growing.undo()
            self.assertEqual(state(growing), state(Growing((0, 2))))
            self.fails(NothingToUndo, {}, growing.undo)
            self.assertEqual(state(growing), state(Growing((0, 2))))

    def test_refused_calls_are_no_changes(self):
        growing = Growing((0,))
        growing.reserve(5)
        self.fails(Refused, {"reason": "reserved"}, growing.reserve, 5)
        self.fails(InvalidNumber, {"given": -1}, growing.grow, -1)
        self.same(growing.change_count, 1)
        growing.undo()
        self.assertEqual(growing, Growing((0,)))

    def test_nothing_to_undo(self):
        for made in KINDS:
            self.fails(NothingToUndo, {}, made((0,)).undo)

    def test_what_was_decided_is_forgotten(self):
        growing = Growing((0,))
        growing.reserve(8)
        growing.forbid(3)
        growing.grow(4)
        self.same([growing.kind(x) for x in range(5)], ["member", "member", "covered", "forbidden", "blocked"])
        growing.undo()
        growing.undo()
        growing.forbid(1, 4)
        growing.release(8)
        growing.reserve(2)
        growing.grow(4)
        # 3 and 4 had other kinds before.
        self.same([growing.kind(x) for x in range(5)], ["member", "blocked", "member", "member", "covered"])
        self.same([growing.certificate(x) for x in range(5)], [None, (0, 1, 2), None, None, (0, 2)])
        for _ in range(4):
            growing.undo()
        growing.release(8)
        growing.forbid(1, 2, 3, 4)
        growing.grow(4)
        self.same([growing.kind(x) for x in range(5)], ["member", "forbidden", "forbidden", "forbidden", "forbidden"])
        growing.undo()
        growing.undo()
        growing.reserve(2, 3)
        growing.grow(4)
        self.same([growing.kind(x) for x in range(5)], ["member", "blocked", "member", "member", "covered"])

    def test_undo_of_a_step_over_reserved_and_forbidden_numbers(self):
        growing = Growing((0,))
        growing.reserve(3)
        growing.forbid(1)
        growing.grow(5)
        self.same(growing.reserved + growing.forbidden, ())
        growing.undo()
        self.same((growing.reserved, growing.forbidden), ((3,), (1,)))
        growing.release(3, 1)
        self.assertEqual(growing.grow(4), (1, 3, 4))


class CopyTest(unittest.TestCase, Checks):
    def test_copies(self):
        for made in KINDS:
            growing = busy(made)
            other = growing.copy()
            self.assertIs(other.__class__, made)
            self.assertEqual(state(other), state(growing))
            self.assertEqual(other, growing)

    def test_copies_are_independent(self):
        for made in KINDS:
            growing = busy(made)
            before = state(growing)
            other = growing.copy()
            other.grow(40)
            other.forbid(500)
            self.assertEqual(state(growing), before)
            after = state(other)
            growing.reserve(600)
            growing.undo()
            for _ in range(4):
                growing.undo()
            self.assertEqual(state(other), after)
            for _ in range(2):
                other.undo()
            self.assertEqual(state(other), before)
            for _ in range(4):
                other.undo()
            self.assertEqual(other, Growing((0, 2)))


class EqualityTest(unittest.TestCase, Checks):
    def test_equal(self):
        self.assertEqual(Growing((0, 1)), Growing([0, 1]))
        self.assertEqual(Growing((0,)), LoggedGrowing((0,)))
        self.assertEqual(LoggedGrowing((0,)), Growing((0,)))
        # The same members and position, whatever the start and the changes are.
        one = Growing((0,))
        one.grow_to(4)
        self.assertEqual(one, Growing((0, 1, 3, 4)))
        self.assertEqual(one, Growing.reaching((0, 1, 3, 4)))
        one.reserve(20)
        other = Growing((0, 1, 3, 4))
        other.forbid(9)
        other.reserve(20)
        other.release(9)
        self.assertEqual(one, other)

    def test_the_order_of_edits(self):
        one = Growing((0,))
        one.reserve(20, 31)
        one.forbid(5, 6)
        other = Growing((0,))
        other.forbid(6, 5)
        other.reserve(31, 20)
        self.assertEqual(one, other)

    def test_unequal(self):
        one = Growing((0,))
        other = Growing((0,))
        other.reserve(5)
        third = Growing((0,))
        third.forbid(5)
        fourth = Growing((0, 1))
        fourth.grow(1)
        # Nothing is added at 2, so that only the positions are different.
        for a, b in itertools.combinations((one, other, third, fourth, Growing((0, 1)), Growing((0, 2))), 2):
            self.assertNotEqual(a, b)
        for value in (None, (0,), [0], 0, "Growing(0)", GreedySequence((0,)), Cell(1, (0,))):
            self.assertFalse(one == value)
        self.assertFalse(Growing((0,)) == object())


class LoggedTest(unittest.TestCase, Checks):
    def test_refusals(self):
        growing = LoggedGrowing((0, 2))
        self.same(growing.refusals, ())
        growing.grow_to(5)
        for name, numbers, reason in self.rows():
            before = state(growing)
            self.fails(Refused, {"reason": reason}, getattr(growing, name), *numbers)
            self.assertEqual(state(growing), before)
        self.same(growing.refusals, tuple((name, reason) for name, _, reason in self.rows()))

    def rows(self):
        """Refused calls with their reasons, for (0, 2), grown to 5."""
        return [
            ("reserve", (5,), "decided"),
            ("reserve", (7,), (3, 5, 7)),
            ("forbid", (10, 4), "decided"),
            ("forbid", (9, 9), "forbidden"),
            ("reserve", (20, 20), "reserved"),
            ("release", (0,), "decided"),
            ("release", (6,), "absent"),
        ]

    def test_other_errors_are_not_listed(self):
        growing = LoggedGrowing((0,))
        self.fails(InvalidNumber, {"given": -1}, growing.reserve, 0, -1)
        self.fails(InvalidNumber, {"given": None}, growing.grow, None)
        self.fails(TooLarge, {"limit": 200}, growing.forbid, *range(1, 300))
        self.fails(NothingToUndo, {}, growing.undo)
        self.fails(NotRuled, {"limit": 2}, growing.tail, 2)
        self.same(growing.refusals, ())

    def test_undo_does_not_change_them(self):
        growing = LoggedGrowing((0,))
        growing.grow(3)
        self.fails(Refused, {"reason": "decided"}, growing.reserve, 3)
        growing.undo()
        self.same(growing.refusals, (("reserve", "decided"),))
        self.fails(Refused, {"reason": (0, 1, 2)}, growing.reserve, 3, 1, 2)
        self.same(growing.refusals, (("reserve", "decided"), ("reserve", (0, 1, 2))))

    def test_copies(self):
        growing = LoggedGrowing((0,))
        self.fails(Refused, {"reason": "decided"}, growing.forbid, 0)
        other = growing.copy()
        self.same(other.refusals, (("forbid", "decided"),))
        self.fails(Refused, {"reason": "absent"}, other.release, 1)
        self.same(growing.refusals, (("forbid", "decided"),))
        self.same(other.refusals, (("forbid", "decided"), ("release", "absent")))

    def test_they_do_not_matter_for_equality(self):
        growing = LoggedGrowing((0,))
        self.fails(Refused, {"reason": "decided"}, growing.forbid, 0)
        self.assertEqual(growing, Growing((0,)))
        self.same(LoggedGrowing.reaching((0, 5)).refusals, ())

    def test_a_plain_one_has_none(self):
        self.assertFalse(hasattr(Growing((0,)), "refusals"))


if __name__ == "__main__":
    unittest.main()
