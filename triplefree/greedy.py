"""Greedy sequences: from a start on, always the least number that no two members cover."""

from triplefree.common import check_number, is_between
from triplefree.errors import InvalidMembers, InvalidNumber, InvalidStart, IsMember, NotCovered, NotFree, TooLarge


def least_triple(numbers):
    """The smallest triple (y, z, x) of some integers in any order, or None."""
    present = set(numbers)
    ordered = sorted(present)
    for place, y in enumerate(ordered):
        for z in ordered[place + 1:]:
            x = 2 * z - y
            if x in present:
                return (y, z, x)
    return None


def smallest_triple(*numbers):
    """The smallest triple (y, z, x) of the arguments, or None."""
    for number in numbers:
        check_number(number)
    return least_triple(numbers)


def checked_start(value):
    """The tuple of a start; raises InvalidStart or NotFree if the value is none."""
    if not isinstance(value, (tuple, list)) or not 1 <= len(value) <= GreedySequence.MAX_START:
        raise InvalidStart(None)
    least = 0
    for index, number in enumerate(value):
        if not is_between(number, least, GreedySequence.MAX_FIRST):
            raise InvalidStart(index)
        least = number + 1
    triple = least_triple(value)
    if triple is not None:
        low, middle, high = triple
        raise NotFree(low, middle, high)
    return tuple(value)


def covered_with(members, z, limit):
    """The numbers up to limit that z covers together with one of some members below z."""
    return [2 * z - y for y in members if 2 * z - y <= limit]


def members_up_to(start, limit):
    """The members up to limit, which is at least the last number of the start, in ascending order."""
    members = []
    covered = {}
    for x in list(start) + list(range(start[-1] + 1, limit + 1)):
        # A start is free, so none of its own numbers is left out here.
        if x not in covered:
            for later in covered_with(members, x, limit):
                covered[later] = True
            members.append(x)
    return tuple(members)


class GreedySequence:
    """The greedy sequence of a start, known up to its horizon."""

    MAX_START = 40
    MAX_FIRST = 1000000
    REACH = 2000

    def __init__(self, start):
        self._start = checked_start(start)
        self._last = self._start[-1]
        self._horizon = self._last + self.REACH
        self._members = members_up_to(self._start, self._horizon)
        # The first 40 members are at most last + 780, so all of them are known.
        self._beginning = self._members[:self.MAX_START]
        self._present = {x: True for x in self._members}

    @classmethod
    def of_numbers(cls, *numbers):
        """The sequence of this class whose start is the tuple of the arguments."""
        return cls(numbers)

    @staticmethod
    def is_start(value):
        """True if the value is a start, False for every other value of any kind."""
        try:
            checked_start(value)
        except (InvalidStart, NotFree):
            return False
        return True

    @property
    def start(self):
        """The start, a tuple."""
        return self._start

    @property
    def last(self):
        """The last number of the start."""
        return self._last

    @property
    def horizon(self):
        """The greatest number up to which the members are known."""
        return self._horizon

    @property
    def beginning(self):
        """The tuple of the first 40 members."""
        return self._beginning

    def member(self, number):
        """Member number number, counted from 0."""
        check_number(number)
        if number >= len(self._members):
            raise TooLarge(self.REACH)
        return self._members[number]

    def contains(self, x):
        """True if x is a member."""
        self._check_reach(x)
        return x in self._present

    def rank(self, x):
        """The number of members that are less than x."""
        self._check_reach(x)
        return len([y for y in self._members if y < x])

    def next_member(self, x):
        """The least member that is greater than x."""
        self._check_reach(x)
        for y in self._members:
            if y > x:
                return y
        raise TooLarge(self.REACH)

    def coverings(self, x):
        """Yields the pairs of members that cover x in ascending order."""
        self._check_reach(x)
        for pair in self._covering_pairs(x):
            yield pair

    def cover(self, x):
        """The widest pair of members that covers x."""
        return self._pairs_of_covered(x)[0]

    def check_cover(self, x, pair):
        """True if the pair is a tuple of two members that covers x."""
        self._check_reach(x)
        if not isinstance(pair, tuple) or len(pair) != 2:
            return False
        y, z = pair
        if not is_between(y, 0, x) or not is_between(z, 0, x):
            return False
        return y < z and x - z == z - y and y in self._present and z in self._present

    def walk(self, number=0):
        """Yields the members from member number number on, as far as the horizon."""
        check_number(number)
        for x in self._members[number:]:
            yield x

    def continued(self, count):
        """The sequence of this class whose start is the first members, as many as count."""
        if not is_between(count, len(self._start), self.MAX_START):
            raise InvalidNumber(count)
        numbers = self._beginning[:count]
        if numbers[-1] > self.MAX_FIRST:
            raise TooLarge(self.MAX_FIRST)
        return self.of_numbers(*numbers)

    def shifted(self, shift):
        """The sequence of this class whose start is greater by shift."""
        check_number(shift)
        if self._last + shift > self.MAX_FIRST:
            raise TooLarge(self.MAX_FIRST)
        numbers = [x + shift for x in self._start]
        return self.of_numbers(*numbers)

    def _check_reach(self, x):
        """Raises InvalidNumber unless x is an integer from 0 to the horizon."""
        if not is_between(x, 0, self._horizon):
            raise InvalidNumber(x)

    def _covering_pairs(self, x):
        """The list of the pairs of members that cover x, in ascending order."""
        pairs = []
        for y in self._members:
            # The middle of y and x is a number only if both are even or both are odd.
            middle, odd = divmod(y + x, 2)
            if y < x and odd == 0 and middle in self._present:
                pairs.append((y, middle))
        return pairs

    def _pairs_of_covered(self, x):
        """The pairs of members that cover x, at least one; raises an error if there is none."""
        self._check_reach(x)
        if x in self._present:
            raise IsMember(x)
        pairs = self._covering_pairs(x)
        if not pairs:
            raise NotCovered(x)
        return pairs

    def __eq__(self, other):
        return isinstance(other, GreedySequence) and self._beginning == other._beginning

    def __str__(self):
        numbers = " ".join([str(x) for x in self._start])
        return f"{numbers} .."


class ClosestSequence(GreedySequence):
    """A greedy sequence that prefers the closest pairs."""

    def coverings(self, x):
        """Yields the pairs of members that cover x in descending order."""
        self._check_reach(x)
        for pair in reversed(self._covering_pairs(x)):
            yield pair

    def cover(self, x):
        """The closest pair of members that covers x."""
        return self._pairs_of_covered(x)[-1]


def check_sequences(values):
    """Raises InvalidMembers for the first value that is not a greedy sequence."""
    for index, value in enumerate(values):
        if not isinstance(value, GreedySequence):
            raise InvalidMembers(index)


def first_difference(one, other):
    """The first difference and the place, 0 or 1, of the sequence that has it, or None."""
    check_sequences((one, other))
    # Sequences with the same beginning are the same, so this looks far enough.
    for x, y in zip(one.beginning, other.beginning):
        if x < y:
            return (x, 0)
        if y < x:
            return (y, 1)
    return None


def common_beginning(*sequences):
    """The longest tuple with which the beginnings of all arguments begin."""
    if not sequences:
        raise InvalidMembers(None)
    check_sequences(sequences)
    shared = sequences[0].beginning
    for sequence in sequences:
        shared = shared_part(shared, sequence.beginning)
    return shared


def shared_part(one, other):
    """The longest tuple with which both tuples begin."""
    shared = []
    for x, y in zip(one, other):
        if x != y:
            break
        shared.append(x)
    return tuple(shared)
