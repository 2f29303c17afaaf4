"""The base set B: the integers whose ternary digits are all 0 or 1."""

from triplefree.common import check_number, is_between, is_number, is_whole
from triplefree.errors import InvalidMembers, InvalidNumber

MAX_POWER = 2000

# Great numbers are taken apart in blocks of 16 digits, and these in fours, which is faster than digit by digit.
BLOCK_POWER = 3 ** 16
FOURS = (
    "0000", "0001", "0002", "0010", "0011", "0012", "0020", "0021", "0022",
    "0100", "0101", "0102", "0110", "0111", "0112", "0120", "0121", "0122",
    "0200", "0201", "0202", "0210", "0211", "0212", "0220", "0221", "0222",
    "1000", "1001", "1002", "1010", "1011", "1012", "1020", "1021", "1022",
    "1100", "1101", "1102", "1110", "1111", "1112", "1120", "1121", "1122",
    "1200", "1201", "1202", "1210", "1211", "1212", "1220", "1221", "1222",
    "2000", "2001", "2002", "2010", "2011", "2012", "2020", "2021", "2022",
    "2100", "2101", "2102", "2110", "2111", "2112", "2120", "2121", "2122",
    "2200", "2201", "2202", "2210", "2211", "2212", "2220", "2221", "2222",
)

DIGITS = {"0": 0, "1": 1, "2": 2}

# Python reads at most 4300 ternary digits at once, so longer texts are read in pieces.
PIECE = 1024
PIECE_POWER = (3 ** 64) ** 16


def ternary_text(number):
    """The ternary digits of a number, the most significant one first, empty for 0."""
    if number < 81:
        return FOURS[number].lstrip("0")
    parts = []
    while number >= BLOCK_POWER:
        number, block = divmod(number, BLOCK_POWER)
        high, low = divmod(block, 6561)
        parts.append(f"{FOURS[high // 81]}{FOURS[high % 81]}{FOURS[low // 81]}{FOURS[low % 81]}")
    while number > 0:
        number, four = divmod(number, 81)
        parts.append(FOURS[four])
    return "".join(reversed(parts)).lstrip("0")


def ternary_number(text):
    """The number with these ternary digits, the most significant one first."""
    if len(text) < PIECE:
        return int("0" + text, 3)
    head = len(text) % PIECE
    number = int("0" + text[:head], 3)
    for place in range(head, len(text), PIECE):
        number = number * PIECE_POWER + int(text[place:place + PIECE], 3)
    return number


def text_rank(text):
    """The number of members of the base set that are less than the number with these ternary digits."""
    front, two, rest = text.partition("2")
    rank = int("0" + front, 2)
    if two:
        # All members with the same digits in front are less, whatever follows.
        return (rank + 1) << (len(rest) + 1)
    return rank


def base_member(number):
    """Member number number of the base set, counted from 0."""
    check_number(number)
    return ternary_number(f"{number:b}")


def in_base(x):
    """True if x is in the base set."""
    check_number(x)
    return "2" not in ternary_text(x)


def base_rank(x):
    """The number of members of the base set that are less than x."""
    check_number(x)
    return text_rank(ternary_text(x))


def next_base(x):
    """The least member of the base set that is greater than x."""
    check_number(x)
    return base_member(base_rank(x + 1))


def last_base(x):
    """The greatest member of the base set that is not greater than x."""
    check_number(x)
    front, two, rest = ternary_text(x).partition("2")
    if two:
        return ternary_number(front + "1" * (len(rest) + 1))
    return x


def base_gap(number):
    """The difference between member number number and the one before it."""
    if not is_number(number) or number == 0:
        raise InvalidNumber(number)
    # The greatest power of 2 in number is the number of the power of 3.
    return (base_member(number & -number) + 1) // 2


def base_sum(number):
    """The sum of the first members, as many as number says."""
    check_number(number)
    total = 0
    count = 0
    member = 0
    for bit in f"{number:b}":
        # Twice as many members are those of the first ones with a digit 0 or 1 behind them.
        total = 6 * total + count
        count *= 2
        member *= 3
        if bit == "1":
            total += member
            count += 1
            member += 1
    return total


def mirror(x, power):
    """The mirror of x in the first members, as many as the given power of 2."""
    if not is_between(power, 0, MAX_POWER):
        raise InvalidNumber(power)
    greatest = base_member((1 << power) - 1)
    if not is_between(x, 0, greatest) or not in_base(x):
        raise InvalidNumber(x)
    return greatest - x


def plain_pair(m):
    """The plain pair (y, z) of m: y <= z in the base set with 2 z - y = m."""
    check_number(m)
    text = ternary_text(m)
    return (ternary_number(text.replace("2", "0")), ternary_number(text.replace("2", "1")))


def number_of_twos(text):
    """The member of the base set with the digit 1 where these ternary digits are 2."""
    return ternary_number(text.replace("1", "0").replace("2", "1"))


def sum_count(m):
    """The number of ordered pairs of members with the sum m."""
    check_number(m)
    return 1 << ternary_text(m).count("1")


def sum_pairs(m):
    """Yields the ordered pairs of members with the sum m in ascending order."""
    check_number(m)
    text = ternary_text(m)
    # Both numbers have the digit 1 where m has 2; the ones of m go to either of them.
    low = number_of_twos(text)
    yield (low, m - low)
    steps = []
    lesser = 0
    place = text.rfind("1")
    while place >= 0:
        power = ternary_number("1" + "0" * (len(text) - place - 1))
        # Where a power comes in, all lesser ones go.
        steps.append(power - lesser)
        lesser += power
        for number in range(1 << (len(steps) - 1), 1 << len(steps)):
            # The powers in low are the binary digits of number, the lowest one has come in now.
            low += steps[(number & -number).bit_length() - 1]
            yield (low, m - low)
        place = text.rfind("1", 0, place)


def difference_pair(d):
    """The members x and y without a common digit 1 whose difference x - y is d."""
    if not is_whole(d):
        raise InvalidNumber(d)
    size = len(ternary_text(abs(d))) + 1
    # A 1 added to each digit turns the digits -1, 0 and 1 into 0, 1 and 2.
    text = ternary_text(d + ternary_number("1" * size)).zfill(size)
    negative = text.replace("2", "1").replace("0", "2")
    return (number_of_twos(text), number_of_twos(negative))


def member_ranks(values):
    """The ranks of some members; raises InvalidMembers for the first value that is not in the base set."""
    ranks = []
    for index, value in enumerate(values):
        if not is_number(value):
            raise InvalidMembers(index)
        text = ternary_text(value)
        if "2" in text:
            raise InvalidMembers(index)
        ranks.append(text_rank(text))
    return ranks


def join(*members):
    """The member with the digit 1 where at least one of the members has it."""
    joined = 0
    for rank in member_ranks(members):
        joined = joined | rank
    return base_member(joined)


def meet(*members):
    """The member with the digit 1 where all of the members have it."""
    if not members:
        raise InvalidMembers(None)
    ranks = member_ranks(members)
    common = ranks[0]
    for rank in ranks:
        common = common & rank
    return base_member(common)


def base_members(start=0):
    """Yields the members of the base set from member number start on, for ever."""
    member = base_member(start)
    number = start
    # The gaps in front of the members whose numbers have the exponents 0, 1, .. of 2.
    gaps = [1]
    while True:
        yield member
        number += 1
        exponent = (number & -number).bit_length() - 1
        while exponent >= len(gaps):
            gaps.append(3 * gaps[-1] - 1)
        member += gaps[exponent]


class Ternary:
    """The ternary digits of a number."""

    RADIX = 3

    def __init__(self, number):
        check_number(number)
        self._number = number
        self._text = ternary_text(number)
        self._digits = tuple([DIGITS[digit] for digit in self._text])

    @staticmethod
    def is_digit(value):
        """True for the integers 0, 1 and 2, False for every other value of any kind."""
        return is_between(value, 0, 2)

    @classmethod
    def from_digits(cls, *digits):
        """The object whose number has these digits, the most significant one first."""
        number = 0
        for digit in digits:
            if not cls.is_digit(digit):
                raise InvalidNumber(digit)
            number = cls.RADIX * number + digit
        return cls(number)

    @property
    def number(self):
        """The number."""
        return self._number

    @property
    def digits(self):
        """The digits, the most significant one first, without leading zeros."""
        return self._digits

    @property
    def ones(self):
        """The number of digits 1."""
        return self._text.count("1")

    @property
    def is_plain(self):
        """True if the number is in the base set."""
        return "2" not in self._text

    def __eq__(self, other):
        return isinstance(other, Ternary) and self._number == other._number

    def __str__(self):
        if not self._text:
            return "0"
        return f"{self._text}"
