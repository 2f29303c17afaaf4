"""Cells: finite sets of remainders that determine a whole sequence."""

from triplefree.base import base_member
from triplefree.common import bits_of, covered_bits, is_between, lowest_place, moved, places_of
from triplefree.errors import (
    InvalidCell,
    InvalidMembers,
    InvalidModulus,
    InvalidNumber,
    IsMember,
    NotFree,
    NotServed,
)

MAX_DIGITS = 8


def check_cell(value, part):
    """Raises InvalidCell with this part unless the value is a cell."""
    if not isinstance(value, Cell):
        raise InvalidCell(part)


def checked_members(modulus, members):
    """The tuple of the members; raises InvalidModulus or InvalidMembers if a cell cannot have them by their form."""
    if not is_between(modulus, 1, Cell.MAX_MODULUS):
        raise InvalidModulus(modulus)
    if not isinstance(members, (tuple, list)) or not 1 <= len(members) <= Cell.MAX_MEMBERS:
        raise InvalidMembers(None)
    least = 0
    for index, number in enumerate(members):
        if not is_between(number, least, modulus - 1):
            raise InvalidMembers(index)
        least = number + 1
    return tuple(members)


def first_clash(modulus, members, bits, doubled):
    """The smallest (y, z, x) of members, not all equal, with 2 z - y = x modulo the modulus, or None."""
    # The sums x + y that are 2 z modulo the modulus.
    sums = doubled | (doubled << modulus) | (doubled >> modulus)
    present = set(members)
    for y in members:
        opposite = modulus % 2 == 0 and (y + modulus // 2) % modulus in present
        # Without a clash the only such sum is y + y, and only z = y gives it.
        if opposite or (bits << y) & sums != 1 << (2 * y):
            for z in members:
                x = (2 * z - y) % modulus
                if z != y and x in present:
                    return (y, z, x)
    return None


def first_unserved(modulus, bits, covered):
    """The least remainder that is neither a member nor served by two members, or None."""
    numbers = (1 << modulus) - 1
    # What two members cover from the modulus on is less than modulus + greatest member, as (b) asks.
    served = bits | covered | (covered >> modulus)
    missing = numbers ^ (numbers & served)
    if missing == 0:
        return None
    return lowest_place(missing)


class Cell:
    """A modulus and members that determine a sequence."""

    MAX_MODULUS = 20000
    MAX_MEMBERS = 256

    def __init__(self, modulus, members):
        self._members = checked_members(modulus, members)
        self._modulus = modulus
        self._present = {a: True for a in self._members}
        self._bits = bits_of(self._members)
        self._doubled = bits_of([2 * a for a in self._members])
        clash = first_clash(modulus, self._members, self._bits, self._doubled)
        if clash is not None:
            low, middle, high = clash
            raise NotFree(low, middle, high)
        self._covered = covered_bits(self._members)
        remainder = first_unserved(modulus, self._bits, self._covered)
        if remainder is not None:
            raise NotServed(remainder)

    @classmethod
    def base(cls, *, digits=1):
        """The cell with the modulus 3 ** digits whose members are the base set below it."""
        if not is_between(digits, 0, MAX_DIGITS):
            raise InvalidNumber(digits)
        count = 1 << digits
        return cls(base_member(count), [base_member(number) for number in range(count)])

    @staticmethod
    def violation(modulus, members):
        """None for a cell, otherwise ("free", y, z, x) or ("served", remainder)."""
        try:
            Cell(modulus, members)
        except NotFree as clash:
            return ("free", clash.low, clash.middle, clash.high)
        except NotServed as lack:
            return ("served", lack.remainder)
        return None

    @property
    def modulus(self):
        """The modulus."""
        return self._modulus

    @property
    def members(self):
        """The members, an ascending tuple."""
        return self._members

    @property
    def size(self):
        """The number of members."""
        return len(self._members)

    @property
    def greatest(self):
        """The greatest member."""
        return self._members[-1]

    def has(self, remainder):
        """True if the remainder is a member."""
        self._check_remainder(remainder)
        return remainder in self._present

    def serving_pair(self, remainder):
        """The pair of members that serves the remainder."""
        total = remainder + self._modulus * self.carry(remainder)
        y = lowest_place(self._pair_bits(total))
        return (y, (total + y) // 2)

    def carry(self, remainder):
        """The carry of the serving pair: 0 or 1."""
        self._check_remainder(remainder)
        if remainder in self._present:
            raise IsMember(remainder)
        if (self._covered >> remainder) & 1 == 1:
            return 0
        return 1

    def pairs_to(self, total):
        """The list of the pairs (u, v) of members, also with u > v, with 2 v - u = total, in ascending order."""
        return [(u, (total + u) // 2) for u in places_of(self._pair_bits(total))]

    def open_numbers(self):
        """The list of the numbers below the greatest member that are neither members nor covered by two of them."""
        below = (1 << self._members[-1]) - 1
        return places_of(below ^ (below & (self._bits | self._covered)))

    def _check_remainder(self, remainder):
        """Raises InvalidNumber unless the remainder is an integer from 0 to modulus - 1."""
        if not is_between(remainder, 0, self._modulus - 1):
            raise InvalidNumber(remainder)

    def _pair_bits(self, total):
        """The members u that are in a pair (u, v) of members with 2 v - u = total."""
        return self._bits & moved(self._doubled, -total)

    def __eq__(self, other):
        return isinstance(other, Cell) and self._modulus == other._modulus and self._members == other._members

    def __str__(self):
        return " ".join([str(self._modulus), ":"] + [str(a) for a in self._members])
