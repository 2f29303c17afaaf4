"""Values and plain definitions that several test files use."""

import itertools
import os
import sys

HUGE = 10 ** 600 - 1
SEED_NUMBERS = (
    [0, 1, 2, 3, 4, 5, 8, 9, 10, 26, 27, 28]
    + [3 ** e + d for e in (5, 40, 1257) for d in (-1, 0, 1)]
    + [(3 ** e - 1) // 2 + d for e in (5, 40, 1257) for d in (-1, 0, 1)]
    + [2 ** 1990, 10 ** 599, HUGE, 7 ** 700, int("123456789" * 66)]
)
# Cells, found by the definition among all sets with moduli up to 12 and by products of them.
SMALL_CELLS = [
    (1, (0,)),
    (3, (0, 1)),
    (3, (0, 2)),
    (3, (1, 2)),
    (9, (0, 1, 3, 4)),
    (9, (0, 2, 6, 8)),
    (9, (1, 3, 6, 7)),
    (9, (4, 5, 7, 8)),
    (10, (0, 1, 7, 8)),
    (10, (1, 2, 8, 9)),
    (27, (0, 1, 3, 4, 9, 10, 12, 13)),
    (27, (0, 3, 4, 7, 9, 12, 13, 16)),
    (30, (0, 1, 3, 4, 21, 22, 24, 25)),
    (30, (0, 1, 7, 8, 10, 11, 17, 18)),
]
# Numbers of up to sixty digits.
GREAT_NUMBERS = (
    [10 ** 59, 10 ** 60 - 1, 2 ** 190, 7 ** 70, int("123456789" * 6), 20000 * 3 ** 100 + 777]
    + [3 ** 100 + d for d in (-1, 0, 1)]
    + [10 * (3 ** 90 - 1) // 2 + d for d in (0, 1, 7, 9)]
    + [27 * (3 ** 40 + 3 ** 7) + d for d in (-1, 0, 1, 13, 26)]
)


class Chooser:
    """Choices without a plan, but the same ones in every run."""

    def __init__(self, seed):
        self.value = seed

    def below(self, limit):
        """A number from 0 to limit - 1."""
        self.value = (self.value * 6364136223846793005 + 1442695040888963407) % 2 ** 64
        return (self.value >> 33) % limit

    def one_of(self, items):
        """One of some items."""
        return items[self.below(len(items))]


class Thing:
    """An object that is nothing that the program knows."""

    def __eq__(self, other):
        raise AssertionError("an unknown object was compared")

    __hash__ = None


def not_integers():
    """Values of every kind that are not integers; each list and object is new."""
    return [True, False, None, "", "5", "0 1", b"5", 5.0, [], [5], (), (5,), {}, {5: True}, {5}, object(), Thing(), int]


def not_numbers():
    """Values of every kind that are not integers of at least 0."""
    return [-1, -2, -HUGE] + not_integers()


def plain_base(limit):
    """The members of the base set below limit, by its definition."""
    return [m for m in range(limit) if "2" not in ternary_word(m)]


def ternary_word(number):
    """The ternary digits as a string, by division."""
    word = "" if number else "0"
    while number:
        word = str(number % 3) + word
        number //= 3
    return word


def is_triple(y, z, x):
    """The definition of a triple."""
    return y < z < x and x - z == z - y


def plain_pairs(members, x):
    """All pairs of members that cover x, in ascending order, by the definition."""
    members = sorted(members)
    return [(y, z) for y, z in itertools.combinations(members, 2) if y < z and 2 * z - y == x]


def plain_triples(numbers):
    """All triples of some numbers, in ascending order."""
    return [row for row in itertools.combinations(sorted(set(numbers)), 3) if is_triple(*row)]


def plain_greedy(start, limit):
    """The members of the greedy sequence up to limit, by the definition."""
    members = list(start)
    for x in range(start[-1] + 1, limit + 1):
        known = set(members)
        # All members are less than x, so 2 z - x is less than z.
        if not any(2 * z - x in known for z in members):
            members.append(x)
    return members


def plain_clash(modulus, members):
    """The smallest (y, z, x) of members that violates (a) of [20], or None."""
    for y, z, x in itertools.product(members, repeat=3):
        if (2 * z - y - x) % modulus == 0 and not y == z == x:
            return (y, z, x)
    return None


def plain_servers(modulus, members, remainder):
    """The pairs that serve a remainder as in (b) of [20], with their carries, the serving pair first."""
    rows = []
    for y, z in itertools.combinations(members, 2):
        if 2 * z - y == remainder:
            rows.append((0, y, z))
        if 2 * z - y == remainder + modulus and remainder < members[-1]:
            rows.append((1, y, z))
    return sorted(rows)


def plain_violation(modulus, members):
    """What violates the definition of a cell, or None."""
    clash = plain_clash(modulus, members)
    if clash is not None:
        return ("free", *clash)
    for remainder in range(modulus):
        if remainder not in members and not plain_servers(modulus, members, remainder):
            return ("served", remainder)
    return None


def plain_cells(modulus):
    """The members of all cells with a modulus, in ascending order, by the definition."""
    rows = [row for size in range(1, modulus + 1) for row in itertools.combinations(range(modulus), size)]
    return sorted(row for row in rows if plain_violation(modulus, row) is None)


def plain_ruled(modulus, members, limit):
    """The members below limit of the set in [21]."""
    return sorted(a + modulus * b for b in plain_base(limit // modulus + 1) for a in members if a + modulus * b < limit)


def in_plain_ruled(modulus, members, x):
    """True if x is in the set of [21]."""
    return x >= 0 and x % modulus in members and "2" not in ternary_word(x // modulus)


def lines_run(call, *args):
    """How many lines of the package a call runs."""
    folder = os.sep + "triplefree" + os.sep
    count = 0

    def note(frame, event, _):
        nonlocal count
        if folder not in frame.f_code.co_filename:
            return None
        count += event == "line"
        return note

    before = sys.gettrace()
    sys.settrace(note)
    try:
        call(*args)
    finally:
        sys.settrace(before)
    return count


class Checks:
    """Assertions for test cases."""

    def fails(self, error, fields, call, *args, **named):
        """The call raises exactly this error with exactly these fields."""
        with self.assertRaises(error) as caught:
            call(*args, **named)
        self.assertIs(caught.exception.__class__, error)
        for name, value in fields.items():
            found = getattr(caught.exception, name)
            self.assertIs(found.__class__, value.__class__)
            # Objects that cannot be compared must be the very same.
            if found is not value:
                self.assertEqual(found, value)

    def fails_at_first_item(self, error, fields, generator, *args, **named):
        """The generator is made without an error, and its first item raises one."""
        items = generator(*args, **named)
        self.fails(error, fields, next, items)

    def same(self, found, wanted):
        """Equal, and of the same class."""
        self.assertIs(found.__class__, wanted.__class__)
        self.assertEqual(found, wanted)
