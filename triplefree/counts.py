"""Counts: sums, coverings and gaps of ruled sequences, counted without listing the members."""

from triplefree.base import base_member, base_sum, ternary_text
from triplefree.cells import Cell
from triplefree.common import bits_of, check_number, is_number, places_of
from triplefree.errors import InvalidCell, InvalidMembers, InvalidNumber
from triplefree.ruled import RuledSequence, ShiftedSequence


def is_interval(value):
    """True for a tuple of two integers from 0 on in ascending order, False for every other value."""
    if not isinstance(value, tuple) or len(value) != 2:
        return False
    low, high = value
    return is_number(low) and is_number(high) and low <= high


def next_counts(less, same, digit):
    """The counts of base_counts for a number with one more digit behind it."""
    low, middle, high = less
    low_same, middle_same, high_same = same
    if digit == "0":
        return (low + low_same + middle, middle, middle), (0, middle_same, middle_same)
    # 3 n + 2 comes from n with the digits 0 of y and 1 of z, and from n + 1 with 1 and 0.
    rising = middle + middle_same + high
    if digit == "1":
        return (middle, middle, rising), (middle_same, middle_same, 0)
    return (middle, rising, high), (middle_same, 0, high_same)


def base_counts(text):
    """The numbers of pairs y < z and y = z in the base set with 2 z - y = n - 1, n and n + 1, for the digits of n."""
    less = (0, 0, 0)
    same = (0, 1, 1)
    for digit in text:
        less, same = next_counts(less, same, digit)
    return less, same


def summed_base_counts(text):
    """The counts of base_counts, and how often 2 z - y is less than n - 1 for y < z and for y = z."""
    less = (0, 0, 0)
    same = (0, 1, 1)
    # The numbers of pairs with 2 z - y <= n.
    all_less = 0
    all_same = 1
    for digit in text:
        # Each pair up to n has four pairs with one digit more, but not all of them are up to 3 n + digit.
        all_less = 4 * all_less + all_same
        all_same = 2 * all_same
        if digit == "0":
            all_less -= 2 * less[1] + same[1]
            all_same -= same[1]
        elif digit == "1":
            all_less -= less[1] + same[1]
        else:
            all_less += less[2]
        less, same = next_counts(less, same, digit)
    return less, same, all_less - less[0] - less[1], all_same - same[0] - same[1]


def pair_totals(members, limit):
    """How many pairs (u, v) of members with u < v have 2 v - u <= limit, and how many pairs of any members."""
    every = 0
    rising = 0
    below = 0
    for place, v in enumerate(members):
        while below < len(members) and members[below] < 2 * v - limit:
            below += 1
        every += len(members) - below
        rising += max(0, place - below)
    return rising, every


class QuotientSteps:
    """The steps from digit to digit of the pairs (y, z) in the base set with 2 z - y = n - carry.

    The digits are read from the first one on. A set of states is an integer; its binary digit 2 (1 - carry) stands
    for the pairs that are equal so far, the one in front of it for those whose y is less.
    """

    START = 4

    def __init__(self):
        self._after = {}
        self._before = {}

    def after(self, states, digit, e):
        """The states behind a digit of n when the digit of y is e."""
        key = (states, digit, e)
        if key not in self._after:
            found = 0
            for state in range(6):
                if (states >> state) & 1 == 1:
                    found = found | next_states(state, int(digit), e)
            self._after[key] = found
        return self._after[key]

    def before(self, states, digit):
        """The states in front of a digit of n from which one of the given states can be reached."""
        key = (states, digit)
        if key not in self._before:
            found = 0
            for state in range(6):
                reached = self.after(1 << state, digit, 0) | self.after(1 << state, digit, 1)
                if reached & states != 0:
                    found = found | (1 << state)
            self._before[key] = found
        return self._before[key]


def next_states(state, digit, e):
    """The states behind one state when n has this digit and y the digit e."""
    rest, less = divmod(state, 2)
    found = 0
    for f in (0, 1):
        # What 2 z - y is greater than n, one digit later.
        later = 3 * (rest - 1) + 2 * f - e - digit
        if -1 <= later <= 1 and (less == 1 or f >= e):
            found = found | (1 << (2 * (later + 1) + max(less, f - e)))
    return found


def quotient_rows(steps, text, ends):
    """Yields the numbers y of the base set that reach some of the given states, with these, in ascending order."""
    useful = [ends]
    for digit in reversed(text):
        useful.append(steps.before(useful[-1], digit))
    useful.reverse()
    rows = [(0, 0, steps.START & useful[0])]
    while rows:
        place, y, states = rows.pop()
        if place == len(text) and states != 0:
            yield (y, states)
        if place < len(text):
            for e in (1, 0):
                later = steps.after(states, text[place], e) & useful[place + 1]
                if later != 0:
                    rows.append((place + 1, 3 * y + e, later))


class Counts:
    """The counts of a ruled sequence."""

    CARRIES = (-1, 0, 1)

    def __init__(self, sequence):
        if not isinstance(sequence, RuledSequence):
            raise InvalidCell("sequence")
        self._sequence = sequence
        self._cell = sequence.cell
        self._quotients = QuotientSteps()
        self._shift = 0
        if isinstance(sequence, ShiftedSequence):
            self._shift = sequence.shift

    @classmethod
    def of_cell(cls, modulus, members):
        """The counts of the sequence that this cell rules."""
        return cls(RuledSequence(Cell(modulus, members)))

    @staticmethod
    def base_sum(number):
        """The sum of the first members of the base set, as many as number says."""
        return base_sum(number)

    @property
    def sequence(self):
        """The sequence."""
        return self._sequence

    def count_between(self, low, high):
        """How many members are from low to high."""
        check_number(low)
        check_number(high)
        if high < low:
            return 0
        return self._sequence.rank(high + 1) - self._sequence.rank(low)

    def count_in(self, *intervals):
        """How many members are in at least one of some intervals, tuples of the least and the greatest number."""
        for index, interval in enumerate(intervals):
            if not is_interval(interval):
                raise InvalidMembers(index)
        total = 0
        least = 0
        for low, high in sorted(intervals):
            # What is below least has been counted.
            total += self.count_between(max(low, least), high)
            least = max(least, high + 1)
        return total

    def sum_of_first(self, number):
        """The sum of the first members, as many as number says."""
        check_number(number)
        members = self._cell.members
        block, place = divmod(number, len(members))
        whole = block * sum(members) + self._cell.modulus * len(members) * base_sum(block)
        part = sum(members[:place]) + self._cell.modulus * place * base_member(block)
        return whole + part + self._shift * number

    def sum_up_to(self, x):
        """The sum of all members up to x."""
        check_number(x)
        return self.sum_of_first(self._sequence.rank(x + 1))

    def sums_by_name(self, **bounds):
        """The sums up to some bounds under their names."""
        return {name: self.sum_up_to(bound) for name, bound in bounds.items()}

    def covering_count(self, x):
        """The number of coverings of x."""
        check_number(x)
        if x < self._shift:
            return 0
        quotient, remainder = divmod(x - self._shift, self._cell.modulus)
        less, same = base_counts(ternary_text(quotient))
        total = 0
        for carry in self.CARRIES:
            rising, every = self._remainder_pairs(remainder, carry)
            total += len(every) * less[1 - carry] + len(rising) * same[1 - carry]
        return total

    def coverings(self, x):
        """Yields the coverings of x in ascending order."""
        check_number(x)
        if x < self._shift:
            return
        quotient, remainder = divmod(x - self._shift, self._cell.modulus)
        # The pairs of remainders for each state that the quotients end in.
        choices = []
        for carry in reversed(self.CARRIES):
            choices.extend(self._remainder_pairs(remainder, carry))
        ends = bits_of([state for state, pairs in enumerate(choices) if pairs])
        text = ternary_text(quotient)
        for y, states in quotient_rows(self._quotients, text, ends):
            rows = []
            for state in places_of(states):
                z = (quotient + state // 2 - 1 + y) // 2
                rows.extend([(self._number_at(u, y), self._number_at(v, z)) for u, v in choices[state]])
            for row in sorted(rows):
                yield row

    def coverings_up_to(self, x):
        """The number of pairs y < z of members with 2 z - y <= x."""
        check_number(x)
        if x < self._shift:
            return 0
        quotient, remainder = divmod(x - self._shift, self._cell.modulus)
        less, same, before_less, before_same = summed_base_counts(ternary_text(quotient))
        members = self._cell.members
        # For smaller quotients, the remainders may be any pair.
        total = len(members) ** 2 * before_less + len(members) * (len(members) - 1) // 2 * before_same
        for carry in self.CARRIES:
            rising, every = pair_totals(members, remainder + carry * self._cell.modulus)
            total += every * less[1 - carry] + rising * same[1 - carry]
        return total

    def gap_count(self, length, number):
        """How many of the first gaps, numbers 1 to number, have this length."""
        check_number(length)
        check_number(number)
        size = self._cell.size
        total = 0
        for place, step in enumerate(self._steps(), start=1):
            if step == length:
                # So many of the numbers 1 to number have the remainder place.
                total += (number + size - place) // size
        rise = self._rise(length)
        if rise > 0 and rise % self._cell.modulus == 0:
            text = ternary_text(2 * rise // self._cell.modulus - 1)
            if text.rstrip("0") == "1":
                # The text is the power of 3 in the gap, its exponent is that of 2 in the number of blocks.
                blocks = number // size
                total += (blocks >> (len(text) - 1)) - (blocks >> len(text))
        return total

    def first_gap(self, length):
        """The least number of a gap of at least this length."""
        check_number(length)
        for place, step in enumerate(self._steps(), start=1):
            if step >= length:
                return place
        # The gap in front of a new block must have a power of 3 greater than this number.
        least = 2 * ((self._rise(length) - 1) // self._cell.modulus)
        return self._cell.size << len(ternary_text(max(0, least)))

    def longest_gap(self, number):
        """The pair of the length and the least number of the greatest of the first gaps."""
        if not is_number(number) or number == 0:
            raise InvalidNumber(number)
        longest = 0
        first = 0
        for place, step in enumerate(self._steps()[:number], start=1):
            if step > longest:
                longest = step
                first = place
        blocks = number // self._cell.size
        if blocks > 0:
            last = self._cell.size << (blocks.bit_length() - 1)
            if self._sequence.gap(last) > longest:
                return (self._sequence.gap(last), last)
        return (longest, first)

    def _remainder_pairs(self, remainder, carry):
        """The pairs (u, v) of remainders with 2 v - u = remainder + N carry: those with u < v, and all of them."""
        every = self._cell.pairs_to(remainder + carry * self._cell.modulus)
        return [(u, v) for u, v in every if u < v], every

    def _number_at(self, remainder, quotient):
        """The member with this remainder and quotient."""
        return remainder + self._cell.modulus * quotient + self._shift

    def _steps(self):
        """The list of the differences of successive members of the cell."""
        members = self._cell.members
        return [after - before for before, after in zip(members, members[1:])]

    def _rise(self, length):
        """The multiple of the modulus in a gap of this length in front of a new block: N (3 ** t + 1) / 2."""
        return length + self._cell.members[-1] - self._cell.members[0]

    def __eq__(self, other):
        if not isinstance(other, Counts) or self.__class__.__name__ != other.__class__.__name__:
            return False
        return self._sequence == other._sequence


class BaseCounts(Counts):
    """The counts of the base set."""

    def __init__(self):
        super().__init__(RuledSequence(Cell.base()))

    def readings(self, m):
        """The number of pairs y <= z in the base set with 2 z - y = m."""
        check_number(m)
        less, same = base_counts(ternary_text(m))
        return less[1] + same[1]
