"""The base set B: the integers whose ternary digits are all 0 or 1."""

from triplefree.checks import check_number, is_between, is_number, is_whole
from triplefree.errors import InvalidMembers, InvalidNumber

MAX_POWER = 2000


def ternary_digits(number):
    """The ternary digits of a number, the least significant one first."""
    digits = []
    while number > 0:
        digits.append(number % 3)
        number //= 3
    return digits


def ternary_number(digits):
    """The number with these ternary digits, the least significant one first."""
    number = 0
    for digit in reversed(digits):
        number = 3 * number + digit
    return number


def base_member(number):
    """Member number number of the base set, counted from 0."""
    check_number(number)
    digits = []
    while number > 0:
        digits.append(number % 2)
        number //= 2
    return ternary_number(digits)


def in_base(x):
    """True if x is in the base set."""
    check_number(x)
    return 2 not in ternary_digits(x)


def base_rank(x):
    """The number of members of the base set that are less than x."""
    check_number(x)
    digits = ternary_digits(x)
    rank = 0
    for place in reversed(range(len(digits))):
        if digits[place] == 2:
            # All members with the same digits in front are less than x, whatever follows.
            return (rank + 1) << (place + 1)
        rank = 2 * rank + digits[place]
    return rank


def next_base(x):
    """The least member of the base set that is greater than x."""
    check_number(x)
    return base_member(base_rank(x + 1))


def last_base(x):
    """The greatest member of the base set that is not greater than x."""
    check_number(x)
    return base_member(base_rank(x + 1) - 1)


def base_gap(number):
    """The difference between member number number and the one before it."""
    if not is_number(number) or number == 0:
        raise InvalidNumber(number)
    power = 1
    while number % 2 == 0:
        number //= 2
        power *= 3
    return (power + 1) // 2


def base_sum(number):
    """The sum of the first members, as many as number says."""
    check_number(number)
    total = 0
    place = 1
    power = 1
    while place < number:
        whole, rest = divmod(number, 2 * place)
        # So many of the numbers below number have the binary digit 1 at this place.
        ones = whole * place + max(0, rest - place)
        total += power * ones
        place *= 2
        power *= 3
    return total


def mirror(x, power):
    """The mirror of x in the first members, as many as the given power of 2."""
    if not is_between(power, 0, MAX_POWER):
        raise InvalidNumber(power)
    greatest = base_member((1 << power) - 1)
    if not is_between(x, 0, greatest) or not in_base(x):
        raise InvalidNumber(x)
    return greatest - x


def plain_pair(m):
    """The plain pair (y, z) of m: y <= z in the base set with 2 z - y = m."""
    check_number(m)
    digits = ternary_digits(m)
    y = ternary_number([digit % 2 for digit in digits])
    z = ternary_number([min(digit, 1) for digit in digits])
    return (y, z)


def sum_count(m):
    """The number of ordered pairs of members with the sum m."""
    check_number(m)
    return 1 << ternary_digits(m).count(1)


def sum_pairs(m):
    """Yields the ordered pairs of members with the sum m in ascending order."""
    check_number(m)
    free = one_powers(m)
    # Both numbers have the digit 1 where m has 2; the ones of m go to either of them.
    common = (m - sum(free)) // 2
    for part in subset_sums(free):
        yield (common + part, m - common - part)


def one_powers(m):
    """The powers of 3 at which m has the ternary digit 1, in ascending order."""
    powers = []
    power = 1
    for digit in ternary_digits(m):
        if digit == 1:
            powers.append(power)
        power *= 3
    return powers


def subset_sums(powers):
    """Yields the sum of each set of some powers of 3 in ascending order."""
    taken = [False] * len(powers)
    total = 0
    while True:
        yield total
        # The powers taken count like binary digits, so a step is a binary carry.
        place = 0
        while place < len(powers) and taken[place]:
            taken[place] = False
            total -= powers[place]
            place += 1
        if place == len(powers):
            return
        taken[place] = True
        total += powers[place]


def difference_pair(d):
    """The members x and y without a common digit 1 whose difference x - y is d."""
    if not is_whole(d):
        raise InvalidNumber(d)
    x = 0
    y = 0
    power = 1
    while d != 0:
        if d % 3 == 1:
            x += power
        if d % 3 == 2:
            y += power
        # Rounds to the nearest third, so that the remainder 2 counts as the digit -1.
        d = (d + 1) // 3
        power *= 3
    return (x, y)


def check_members(values):
    """Raises InvalidMembers for the first value that is not in the base set."""
    for index, value in enumerate(values):
        if not is_number(value) or not in_base(value):
            raise InvalidMembers(index)


def join(*members):
    """The member with the digit 1 where at least one of the members has it."""
    check_members(members)
    rank = 0
    for member in members:
        rank = rank | base_rank(member)
    return base_member(rank)


def meet(*members):
    """The member with the digit 1 where all of the members have it."""
    if not members:
        raise InvalidMembers(None)
    check_members(members)
    rank = base_rank(members[0])
    for member in members:
        rank = rank & base_rank(member)
    return base_member(rank)


def base_members(start=0):
    """Yields the members of the base set from member number start on, for ever."""
    member = base_member(start)
    number = start
    while True:
        yield member
        number += 1
        member += base_gap(number)


class Ternary:
    """The ternary digits of a number."""

    RADIX = 3

    def __init__(self, number):
        check_number(number)
        self._number = number
        self._digits = tuple(reversed(ternary_digits(number)))

    @staticmethod
    def is_digit(value):
        """True for the integers 0, 1 and 2, False for every other value of any kind."""
        return is_between(value, 0, 2)

    @classmethod
    def from_digits(cls, *digits):
        """The object whose number has these digits, the most significant one first."""
        number = 0
        for digit in digits:
            if not cls.is_digit(digit):
                raise InvalidNumber(digit)
            number = cls.RADIX * number + digit
        return cls(number)

    @property
    def number(self):
        """The number."""
        return self._number

    @property
    def digits(self):
        """The digits, the most significant one first, without leading zeros."""
        return self._digits

    @property
    def ones(self):
        """The number of digits 1."""
        return self._digits.count(1)

    @property
    def is_plain(self):
        """True if the number is in the base set."""
        return 2 not in self._digits

    def __eq__(self, other):
        return isinstance(other, Ternary) and self._number == other._number

    def __str__(self):
        if not self._digits:
            return "0"
        return "".join([str(digit) for digit in self._digits])
