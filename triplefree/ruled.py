"""Ruled sequences: the greedy sequences that cells determine, for numbers of any size."""

from triplefree.base import base_gap, base_member, base_members, in_base, plain_pair, ternary_text, text_rank
from triplefree.cells import Cell
from triplefree.common import check_number, count_below, is_covering, is_number
from triplefree.errors import InvalidCell, InvalidNumber, IsMember, NotCovered, TooLarge


def member_of(cell, number):
    """Member number number of the sequence that a cell rules."""
    block, place = divmod(number, cell.size)
    return cell.members[place] + cell.modulus * base_member(block)


def rank_in(cell, x):
    """The number of members of the sequence that are less than x."""
    quotient, remainder = divmod(x, cell.modulus)
    text = ternary_text(quotient)
    rank = cell.size * text_rank(text)
    if "2" not in text:
        rank += count_below(cell.members, remainder)
    return rank


def is_member_of(cell, x):
    """True if x is a member of the sequence."""
    quotient, remainder = divmod(x, cell.modulus)
    return cell.has(remainder) and in_base(quotient)


def next_in(cell, x):
    """The least member of the sequence that is greater than x."""
    return member_of(cell, rank_in(cell, x + 1))


def last_in(cell, x):
    """The greatest member of the sequence that is not greater than x, or None."""
    rank = rank_in(cell, x + 1)
    if rank == 0:
        return None
    return member_of(cell, rank - 1)


def members_from(cell, start):
    """Yields the members of the sequence from member number start on, without end."""
    block, place = divmod(start, cell.size)
    for base in base_members(block):
        front = cell.modulus * base
        for remainder in cell.members[place:]:
            yield front + remainder
        place = 0


def ruling_pair(cell, x):
    """The ruling pair of x, or None; for a member x, this is (x, x)."""
    quotient, remainder = divmod(x, cell.modulus)
    y = remainder
    z = remainder
    carry = 0
    if not cell.has(remainder):
        y, z = cell.serving_pair(remainder)
        carry = (2 * z - y) // cell.modulus
    if quotient < carry:
        return None
    low, high = plain_pair(quotient - carry)
    return (y + cell.modulus * low, z + cell.modulus * high)


def checked_pair(x, pair):
    """The pair that covers x; raises IsMember for a pair of equal numbers, NotCovered for None."""
    if pair is None:
        raise NotCovered(x)
    y, z = pair
    if y == z:
        raise IsMember(x)
    return pair


def tripled_cell(cell):
    """The cell with three times the modulus that rules the same sequence."""
    if 3 * cell.modulus > Cell.MAX_MODULUS:
        raise TooLarge(Cell.MAX_MODULUS)
    if 2 * cell.size > Cell.MAX_MEMBERS:
        raise TooLarge(Cell.MAX_MEMBERS)
    return Cell(3 * cell.modulus, list(cell.members) + [a + cell.modulus for a in cell.members])


class RuledSequence:
    """The sequence that a cell rules."""

    def __init__(self, cell):
        if not isinstance(cell, Cell):
            raise InvalidCell("cell")
        self._cell = cell

    @property
    def cell(self):
        """The cell."""
        return self._cell

    def member(self, number):
        """Member number number, counted from 0."""
        check_number(number)
        return member_of(self._cell, number)

    def rank(self, x):
        """The number of members that are less than x."""
        check_number(x)
        return rank_in(self._cell, x)

    def contains(self, x):
        """True if x is a member."""
        check_number(x)
        return is_member_of(self._cell, x)

    def next_member(self, x):
        """The least member that is greater than x."""
        check_number(x)
        return next_in(self._cell, x)

    def last_member(self, x):
        """The greatest member that is not greater than x, or None."""
        check_number(x)
        return last_in(self._cell, x)

    def cover(self, x):
        """The ruling pair of x."""
        check_number(x)
        return checked_pair(x, ruling_pair(self._cell, x))

    def check_cover(self, x, pair):
        """True if the pair is a tuple of two members that covers x."""
        check_number(x)
        return is_covering(pair, x) and self.contains(pair[0]) and self.contains(pair[1])

    def gap(self, number):
        """The difference between member number number and the one before it."""
        if not is_number(number) or number == 0:
            raise InvalidNumber(number)
        block, place = divmod(number, self._cell.size)
        members = self._cell.members
        if place > 0:
            return members[place] - members[place - 1]
        return members[0] - members[-1] + self._cell.modulus * base_gap(block)

    def walk(self, start=0):
        """Yields the members from member number start on, without end."""
        check_number(start)
        for x in members_from(self._cell, start):
            yield x

    def uncovered(self):
        """Yields the numbers below the greatest member of the cell that are neither members nor covered."""
        for x in self._cell.open_numbers():
            yield x

    def tripled(self):
        """The ruled sequence of three times the modulus, with the same members."""
        return RuledSequence(tripled_cell(self._cell))

    def __len__(self):
        return len(self._cell.members)

    def __eq__(self, other):
        # A shifted sequence is equal to shifted sequences only, whatever its shift.
        if not isinstance(other, RuledSequence) or isinstance(other, ShiftedSequence):
            return False
        return self._cell == other._cell


class ShiftedSequence(RuledSequence):
    """The members of a ruled sequence, each greater by the same number."""

    def __init__(self, cell, *, shift=0):
        super().__init__(cell)
        check_number(shift)
        self._shift = shift

    @property
    def shift(self):
        """How much greater the members are than those of the ruled sequence."""
        return self._shift

    def member(self, number):
        """Member number number, counted from 0."""
        return super().member(number) + self._shift

    def rank(self, x):
        """The number of members that are less than x."""
        check_number(x)
        return rank_in(self._cell, max(0, x - self._shift))

    def contains(self, x):
        """True if x is a member."""
        check_number(x)
        return x >= self._shift and is_member_of(self._cell, x - self._shift)

    def next_member(self, x):
        """The least member that is greater than x."""
        check_number(x)
        if x < self._shift:
            return self.member(0)
        return next_in(self._cell, x - self._shift) + self._shift

    def last_member(self, x):
        """The greatest member that is not greater than x, or None."""
        check_number(x)
        if x < self._shift:
            return None
        found = last_in(self._cell, x - self._shift)
        if found is None:
            return None
        return found + self._shift

    def cover(self, x):
        """The ruling pair of x, as far above that of the ruled sequence as the members."""
        check_number(x)
        if x < self._shift:
            raise NotCovered(x)
        y, z = checked_pair(x, ruling_pair(self._cell, x - self._shift))
        return (y + self._shift, z + self._shift)

    def check_cover(self, x, pair):
        """True if the pair is a tuple of two members that covers x."""
        check_number(x)
        return is_covering(pair, x) and self.contains(pair[0]) and self.contains(pair[1])

    def gap(self, number):
        """The difference between member number number and the one before it, whatever the shift."""
        return super().gap(number)

    def walk(self, start=0):
        """Yields the members from member number start on, without end."""
        check_number(start)
        for x in members_from(self._cell, start):
            yield x + self._shift

    def uncovered(self):
        """Yields the numbers below the greatest shifted member of the cell that are neither members nor covered."""
        for x in range(self._shift):
            yield x
        for x in self._cell.open_numbers():
            yield x + self._shift

    def tripled(self):
        """The sequence of three times the modulus with the same shift."""
        return ShiftedSequence(tripled_cell(self._cell), shift=self._shift)

    def __len__(self):
        return len(self._cell.members)

    def __eq__(self, other):
        return isinstance(other, ShiftedSequence) and self._cell == other._cell and self._shift == other._shift
