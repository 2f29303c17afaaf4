"""Greedy sequences: from a start on, always the least number that no two members cover."""

from triplefree.common import (
    bits_of,
    check_number,
    count_below,
    covered_bits,
    is_between,
    is_covering,
    lowest_place,
    moved,
)
from triplefree.errors import InvalidMembers, InvalidNumber, InvalidStart, IsMember, NotCovered, NotFree, TooLarge


# Sets of numbers that are not farther from each other than this are kept as bits.
NEAR = 10000


def least_triple(numbers):
    """The smallest triple (y, z, x) of some integers in any order, or None."""
    present = set(numbers)
    ordered = sorted(present)
    if ordered and ordered[-1] - ordered[0] <= NEAR:
        distances = [x - ordered[0] for x in ordered]
        if covered_bits(distances) & bits_of(distances) == 0:
            return None
    for place, y in enumerate(ordered):
        middles = [z for z in ordered[place + 1:] if 2 * z - y in present]
        if middles:
            return (y, middles[0], 2 * middles[0] - y)
    return None


def smallest_triple(*numbers):
    """The smallest triple (y, z, x) of the arguments, or None."""
    for number in numbers:
        check_number(number)
    return least_triple(numbers)


def checked_start(value):
    """The tuple of a start; raises InvalidStart or NotFree if the value is none."""
    if not isinstance(value, (tuple, list)) or not 1 <= len(value) <= GreedySequence.MAX_START:
        raise InvalidStart(None)
    least = 0
    for index, number in enumerate(value):
        if not is_between(number, least, GreedySequence.MAX_FIRST):
            raise InvalidStart(index)
        least = number + 1
    triple = least_triple(value)
    if triple is not None:
        low, middle, high = triple
        raise NotFree(low, middle, high)
    return tuple(value)


def covered_behind(start):
    """The bits of the numbers from the last one of a start on that the start covers, by their distance from it."""
    last = start[-1]
    if last - start[0] <= NEAR:
        return covered_bits([x - start[0] for x in start]) >> (last - start[0])
    distances = [2 * z - y - last for place, z in enumerate(start) for y in start[:place]]
    return bits_of([distance for distance in distances if 0 <= distance <= GreedySequence.REACH])


def growth_of(start):
    """The growth of a sequence before any member behind the start: see grown."""
    reach = GreedySequence.REACH
    mirrored = bits_of([start[-1] + reach - y for y in start if y >= start[-1] - reach])
    # The bit 1 in front stands for the last number of the start.
    return (start, (covered_behind(start) | 1) & window_of(reach), mirrored)


def window_of(reach):
    """The bits for all distances up to reach."""
    return (1 << (reach + 1)) - 1


def grown(last, growth, limit, count):
    """The growth with all members up to a limit and at least so many members, as far as the horizon.

    A growth has three parts. The first one is the tuple of the first members. The other two are bits: for each number
    that is a member or covered by these members, its distance from the last number of the start; and for each member,
    its distance from the horizon. So moving the latter gives what a new member covers, together with the others.
    """
    members, decided, mirrored = growth
    found = list(members)
    reach = GreedySequence.REACH
    window = window_of(reach)
    while found[-1] < limit or len(found) < count:
        place = lowest_place(decided + 1)
        if place > reach:
            break
        found.append(last + place)
        decided = decided | (1 << place) | (moved(mirrored, 2 * place - reach) & window)
        mirrored = mirrored | (1 << (reach - place))
    return (tuple(found), decided, mirrored)


class GreedySequence:
    """The greedy sequence of a start, known up to its horizon."""

    MAX_START = 40
    MAX_FIRST = 1000000
    REACH = 2000

    def __init__(self, start):
        self._start = checked_start(start)
        self._last = self._start[-1]
        self._horizon = self._last + self.REACH
        # Members behind the start are computed when they are asked for, and not farther.
        self._members = self._start
        self._present = {x: True for x in self._start}
        self._complete = False
        self._growth = None

    @classmethod
    def of_numbers(cls, *numbers):
        """The sequence of this class whose start is the tuple of the arguments."""
        return cls(numbers)

    @staticmethod
    def is_start(value):
        """True if the value is a start, False for every other value of any kind."""
        try:
            checked_start(value)
        except (InvalidStart, NotFree):
            return False
        return True

    @property
    def start(self):
        """The start, a tuple."""
        return self._start

    @property
    def last(self):
        """The last number of the start."""
        return self._last

    @property
    def horizon(self):
        """The greatest number that questions may be about."""
        return self._horizon

    @property
    def beginning(self):
        """The tuple of the first 40 members."""
        # The first 40 members are at most last + 780, so all of them are before the horizon.
        return self._first(self.MAX_START)

    def member(self, number):
        """Member number number, counted from 0."""
        check_number(number)
        members = self._known(0, number + 1)
        if number >= len(members):
            raise TooLarge(self.REACH)
        return members[number]

    def contains(self, x):
        """True if x is a member."""
        self._check_reach(x)
        self._known(x, 0)
        return x in self._present

    def rank(self, x):
        """The number of members that are less than x."""
        self._check_reach(x)
        return count_below(self._known(x, 0), x)

    def next_member(self, x):
        """The least member that is greater than x."""
        self._check_reach(x)
        members = self._known(x + 1, 0)
        place = count_below(members, x + 1)
        if place == len(members):
            raise TooLarge(self.REACH)
        return members[place]

    def coverings(self, x):
        """Yields the pairs of members that cover x in ascending order."""
        self._check_reach(x)
        for pair in self._covering_pairs(x):
            yield pair

    def cover(self, x):
        """The widest pair of members that covers x."""
        return self._pairs_of_covered(x)[0]

    def check_cover(self, x, pair):
        """True if the pair is a tuple of two members that covers x."""
        self._check_reach(x)
        return is_covering(pair, x) and self.contains(pair[0]) and self.contains(pair[1])

    def walk(self, number=0):
        """Yields the members from member number number on, as far as the horizon."""
        check_number(number)
        members = self._known(0, number + 1)
        while number < len(members):
            yield members[number]
            number += 1
            if number == len(members):
                members = self._known(0, 2 * number)

    def continued(self, count):
        """The sequence of this class whose start is the first members, as many as count."""
        if not is_between(count, len(self._start), self.MAX_START):
            raise InvalidNumber(count)
        numbers = self._known(0, count)[:count]
        if numbers[-1] > self.MAX_FIRST:
            raise TooLarge(self.MAX_FIRST)
        return self.of_numbers(*numbers)

    def shifted(self, shift):
        """The sequence of this class whose start is greater by shift."""
        check_number(shift)
        if self._last + shift > self.MAX_FIRST:
            raise TooLarge(self.MAX_FIRST)
        numbers = [x + shift for x in self._start]
        return self.of_numbers(*numbers)

    def _check_reach(self, x):
        """Raises InvalidNumber unless x is an integer from 0 to the horizon."""
        if not is_between(x, 0, self._horizon):
            raise InvalidNumber(x)

    def _first(self, count):
        """The tuple of the first members, as many as count; changes nothing, so that properties can ask for it."""
        if count <= len(self._members):
            return self._members[:count]
        return grown(self._last, self._growth_so_far(), 0, count)[0][:count]

    def _agrees(self, other):
        """True if the sequences agree as far as both starts, so that they are the same; changes nothing."""
        fewer = min(len(self._start), len(other._start))
        count = max(len(self._start), len(other._start))
        # Most sequences differ where both starts are known.
        return self._start[:fewer] == other._start[:fewer] and self._first(count) == other._first(count)

    def _growth_so_far(self):
        """The growth that is known."""
        if self._growth is None:
            return growth_of(self._start)
        return self._growth

    def _known(self, limit, count):
        """The tuple of all members up to a limit and at least so many members, as far as the horizon."""
        if self._members[-1] < limit or len(self._members) < count:
            if not self._complete:
                self._grow(limit, count)
        return self._members

    def _grow(self, limit, count):
        """Adds all members up to a limit, and at least so many members, to those that are known."""
        self._growth = grown(self._last, self._growth_so_far(), limit, count)
        members = self._growth[0]
        for x in members[len(self._members):]:
            self._present[x] = True
        self._members = members
        self._complete = members[-1] < limit or len(members) < count

    def _covering_pairs(self, x):
        """The list of the pairs of members that cover x, in ascending order."""
        members = self._known(x, 0)
        present = self._present
        # The middle of y and x is a number only if both are even or both are odd.
        return [(y, (y + x) // 2) for y in members if y < x and (y + x) & 1 == 0 and (y + x) // 2 in present]

    def _pairs_of_covered(self, x):
        """The pairs of members that cover x, at least one; raises an error if there is none."""
        if self.contains(x):
            raise IsMember(x)
        pairs = self._covering_pairs(x)
        if not pairs:
            raise NotCovered(x)
        return pairs

    def __eq__(self, other):
        return isinstance(other, GreedySequence) and self._agrees(other)

    def __str__(self):
        return " ".join([str(x) for x in self._start] + [".."])


class ClosestSequence(GreedySequence):
    """A greedy sequence that prefers the closest pairs."""

    def coverings(self, x):
        """Yields the pairs of members that cover x in descending order."""
        self._check_reach(x)
        for pair in reversed(self._covering_pairs(x)):
            yield pair

    def cover(self, x):
        """The closest pair of members that covers x."""
        return self._pairs_of_covered(x)[-1]


def check_sequences(values):
    """Raises InvalidMembers for the first value that is not a greedy sequence."""
    for index, value in enumerate(values):
        if not isinstance(value, GreedySequence):
            raise InvalidMembers(index)


def first_difference(one, other):
    """The first difference and the place, 0 or 1, of the sequence that has it, or None."""
    check_sequences((one, other))
    # Different sequences differ before the end of the longer start.
    count = max(len(one.start), len(other.start))
    for x, y in zip(one._known(0, count), other._known(0, count)):
        if x < y:
            return (x, 0)
        if y < x:
            return (y, 1)
    return None


def common_beginning(*sequences):
    """The longest tuple with which the beginnings of all arguments begin."""
    if not sequences:
        raise InvalidMembers(None)
    check_sequences(sequences)
    count = max([len(sequence.start) for sequence in sequences])
    shared = sequences[0]._known(0, count)[:count]
    for sequence in sequences:
        shared = shared_part(shared, sequence._known(0, count))
    if len(shared) == count:
        # All sequences are the same.
        return sequences[0].beginning
    return shared


def shared_part(one, other):
    """The longest tuple with which both tuples begin."""
    shared = []
    for x, y in zip(one, other):
        if x != y:
            break
        shared.append(x)
    return tuple(shared)
