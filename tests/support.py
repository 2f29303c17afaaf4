"""Values and plain definitions that several test files use."""

import itertools

HUGE = 10 ** 600 - 1
SEED_NUMBERS = (
    [0, 1, 2, 3, 4, 5, 8, 9, 10, 26, 27, 28]
    + [3 ** e + d for e in (5, 40, 1257) for d in (-1, 0, 1)]
    + [(3 ** e - 1) // 2 + d for e in (5, 40, 1257) for d in (-1, 0, 1)]
    + [2 ** 1990, 10 ** 599, HUGE, 7 ** 700, int("123456789" * 66)]
)


class Thing:
    """An object that is nothing that the program knows."""

    def __eq__(self, other):
        raise AssertionError("an unknown object was compared")

    __hash__ = None


def not_integers():
    """Values of every kind that are not integers; each list and object is new."""
    return [True, False, None, "", "5", "0 1", b"5", 5.0, [], [5], (), (5,), {}, {5: True}, {5}, object(), Thing(), int]


def not_numbers():
    """Values of every kind that are not integers of at least 0."""
    return [-1, -2, -HUGE] + not_integers()


def plain_base(limit):
    """The members of the base set below limit, by its definition."""
    return [m for m in range(limit) if "2" not in ternary_word(m)]


def ternary_word(number):
    """The ternary digits as a string, by division."""
    word = "" if number else "0"
    while number:
        word = str(number % 3) + word
        number //= 3
    return word


def is_triple(y, z, x):
    """The definition of a triple."""
    return y < z < x and x - z == z - y


def plain_pairs(members, x):
    """All pairs of members that cover x, in ascending order, by the definition."""
    members = sorted(members)
    return [(y, z) for y, z in itertools.combinations(members, 2) if y < z and 2 * z - y == x]


def plain_triples(numbers):
    """All triples of some numbers, in ascending order."""
    return [row for row in itertools.combinations(sorted(set(numbers)), 3) if is_triple(*row)]


def plain_greedy(start, limit):
    """The members of the greedy sequence up to limit, by the definition."""
    members = list(start)
    for x in range(start[-1] + 1, limit + 1):
        known = set(members)
        # All members are less than x, so 2 z - x is less than z.
        if not any(2 * z - x in known for z in members):
            members.append(x)
    return members


class Checks:
    """Assertions for test cases."""

    def fails(self, error, fields, call, *args, **named):
        """The call raises exactly this error with exactly these fields."""
        with self.assertRaises(error) as caught:
            call(*args, **named)
        self.assertIs(caught.exception.__class__, error)
        for name, value in fields.items():
            found = getattr(caught.exception, name)
            self.assertIs(found.__class__, value.__class__)
            # Objects that cannot be compared must be the very same.
            if found is not value:
                self.assertEqual(found, value)

    def fails_at_first_item(self, error, fields, generator, *args, **named):
        """The generator is made without an error, and its first item raises one."""
        items = generator(*args, **named)
        self.fails(error, fields, next, items)

    def same(self, found, wanted):
        """Equal, and of the same class."""
        self.assertIs(found.__class__, wanted.__class__)
        self.assertEqual(found, wanted)
