"""Growing sets: free sets that decide one number after the other, with reserved and forbidden numbers."""

from triplefree.cells import Cell
from triplefree.common import check_number, count_below, is_between, is_number
from triplefree.errors import (
    InvalidMembers, InvalidModulus, InvalidNumber, NotFree, NothingToUndo, NotRuled, NotServed, Refused, TooLarge,
)
from triplefree.greedy import GreedySequence, checked_start, least_triple
from triplefree.ruled import RuledSequence

MAX_REACHED = 200


def is_covered(members, present, x):
    """True if two of the members, all of them less than x, cover it."""
    # The closest pairs are found first, and most numbers that are covered have one.
    for z in reversed(members):
        y = 2 * z - x
        if y < 0:
            return False
        if y in present:
            return True
    return False


def widest_pair(members, present, x):
    """The smallest pair of members that covers x, or None."""
    for y in members:
        if y >= x:
            return None
        if (y + x) & 1 == 0 and (y + x) // 2 in present:
            return (y, (y + x) // 2)
    return None


def blocking_triple(present, reserved, x):
    """The smallest triple of x, members less than x and reserved numbers greater than x, or None.

    The members do not cover x, and without x there is no triple.
    """
    lows = [2 * x - high for high in reserved if 2 * x - high in present]
    if lows:
        return (min(lows), x, 2 * x - min(lows))
    middles = [middle for middle in reserved if 2 * middle - x in reserved]
    if middles:
        return (x, min(middles), 2 * min(middles) - x)
    return None


def joining_triple(members, present, reserved, x):
    """The smallest triple that x forms with members and reserved numbers, or None.

    All reserved numbers are greater than the members, and x is none of them.
    """
    for y in [*members, *sorted(reserved)]:
        middle = (y + x) // 2
        if y < x and 2 * middle == y + x and (middle in present or middle in reserved):
            return (y, middle, x)
        if y < x and 2 * x - y in reserved:
            return (y, x, 2 * x - y)
        if y > x and 2 * y - x in reserved:
            return (x, y, 2 * y - x)
    return None


def checked_numbers(numbers):
    """The tuple of the members that a growing set can reach; raises InvalidMembers or NotFree if it cannot."""
    if not isinstance(numbers, (tuple, list)) or not 1 <= len(numbers) <= MAX_REACHED:
        raise InvalidMembers(None)
    least = 0
    most = GreedySequence.MAX_FIRST
    for index, number in enumerate(numbers):
        if not is_between(number, least, most):
            raise InvalidMembers(index)
        least = number + 1
        most = min(most, numbers[0] + Growing.MAX_STEPS)
    triple = least_triple(numbers)
    if triple is not None:
        low, middle, high = triple
        raise NotFree(low, middle, high)
    return tuple(numbers)


class Growing:
    """A free set that grows, with what was decided and the changes that can be taken back."""

    MAX_STEPS = 5000
    MAX_EDITS = 200

    def __init__(self, start):
        self._start = checked_start(start)
        self._members = list(self._start)
        self._present = {x: True for x in self._start}
        self._position = self._start[-1]
        # These two are replaced, never changed, so that the changes to undo can keep them.
        self._reserved = {}
        self._forbidden = {}
        self._blocked = {}
        self._barred = {}
        self._changes = []

    @classmethod
    def reaching(cls, numbers):
        """The growing set of this class that has grown to some numbers by prohibitions only."""
        wanted = checked_numbers(numbers)
        reached = cls(wanted[:1])
        reached._settle(wanted)
        return reached

    @staticmethod
    def first_triple(numbers):
        """The smallest triple of some numbers in any order, or None."""
        if not isinstance(numbers, (tuple, list)):
            raise InvalidMembers(None)
        for index, number in enumerate(numbers):
            if not is_number(number):
                raise InvalidMembers(index)
        return least_triple(numbers)

    @classmethod
    def _begun(cls, start):
        """The growing set of this class with a start."""
        return cls(start)

    @property
    def position(self):
        """The greatest number that is decided."""
        return self._position

    @property
    def reserved(self):
        """The reserved numbers, an ascending tuple."""
        return tuple(sorted(self._reserved))

    @property
    def forbidden(self):
        """The forbidden numbers, an ascending tuple."""
        return tuple(sorted(self._forbidden))

    @property
    def change_count(self):
        """The number of changes that can be taken back."""
        return len(self._changes)

    def grow(self, count=1):
        """Makes so many steps and returns the tuple of the new members."""
        if not is_between(count, 0, self.MAX_STEPS):
            raise InvalidNumber(count)
        return self._grow(count)

    def grow_to(self, number):
        """Makes steps up to this number and returns the tuple of the new members."""
        if not is_between(number, self._position, self._position + self.MAX_STEPS):
            raise InvalidNumber(number)
        return self._grow(number - self._position)

    def reserve(self, *numbers):
        """Reserves some numbers, all of them or none."""
        self._edit("reserve", numbers)

    def forbid(self, *numbers):
        """Forbids some numbers, all of them or none."""
        self._edit("forbid", numbers)

    def release(self, *numbers):
        """Cancels the reservations and prohibitions of some numbers, of all of them or none."""
        self._edit("release", numbers)

    def kind(self, number):
        """The kind of a number that is decided."""
        self._check_decided(number)
        if number in self._present:
            return "member"
        if number < self._start[-1]:
            return "skipped"
        if number in self._blocked:
            return "blocked"
        if number in self._barred:
            return "forbidden"
        return "covered"

    def certificate(self, number):
        """The certificate of a number that is decided."""
        kind = self.kind(number)
        if kind == "blocked":
            return self._blocked[number]
        if kind == "covered":
            # The members that are less than the number are those of the time when it was decided.
            return widest_pair(self._members, self._present, number)
        return None

    def walk(self):
        """Yields the members in ascending order, without end, as if no edit followed."""
        other = self.copy()
        place = 0
        while True:
            while place == len(other._members):
                other._step()
            yield other._members[place]
            place += 1

    def is_member(self, number):
        """True if a number that is decided is a member."""
        self._check_decided(number)
        return number in self._present

    def tail(self, modulus):
        """The ruled sequence of the cell that the members below the modulus form, if all later members are in it."""
        if not is_between(modulus, 1, Cell.MAX_MODULUS):
            raise InvalidModulus(modulus)
        cell = self._cell_below(modulus)
        if cell is None or not self._has_members_of(RuledSequence(cell)):
            raise NotRuled(modulus)
        return RuledSequence(cell)

    def undo(self):
        """Takes back the last change."""
        if not self._changes:
            raise NothingToUndo("the growing set has no change to take back")
        count, position, reserved, forbidden = self._changes.pop()
        for x in self._members[count:]:
            del self._present[x]
        del self._members[count:]
        self._position = position
        self._reserved = reserved
        self._forbidden = forbidden
        self._blocked = {x: self._blocked[x] for x in self._blocked if x <= position}
        self._barred = {x: True for x in self._barred if x <= position}

    def copy(self):
        """An independent growing set of the same class in the same state, with the same changes to undo."""
        other = self._begun(self._start)
        other._members = list(self._members)
        other._present = dict(self._present)
        other._position = self._position
        other._reserved = self._reserved
        other._forbidden = self._forbidden
        other._blocked = dict(self._blocked)
        other._barred = dict(self._barred)
        other._changes = list(self._changes)
        return other

    def _check_decided(self, number):
        """Raises InvalidNumber unless the number is an integer from 0 to the position."""
        if not is_between(number, 0, self._position):
            raise InvalidNumber(number)

    def _remember(self):
        """Keeps the state, so that the change that follows can be taken back."""
        self._changes.append((len(self._members), self._position, self._reserved, self._forbidden))

    def _add(self, x):
        """Makes x a member."""
        self._members.append(x)
        self._present[x] = True

    def _grow(self, count):
        """Makes so many steps as one change and returns the tuple of the new members."""
        self._remember()
        before = len(self._members)
        for _ in range(count):
            self._step()
        return tuple(self._members[before:])

    def _step(self):
        """Decides the next number."""
        x = self._position + 1
        if x in self._reserved:
            self._reserved = {number: True for number in self._reserved if number != x}
            self._add(x)
        elif not is_covered(self._members, self._present, x):
            self._decide(x)
        if x in self._forbidden:
            self._forbidden = {number: True for number in self._forbidden if number != x}
        self._position = x

    def _decide(self, x):
        """Decides the next number x, which is neither reserved nor covered."""
        triple = blocking_triple(self._present, self._reserved, x)
        if triple is not None:
            self._blocked[x] = triple
        elif x in self._forbidden:
            self._barred[x] = True
        else:
            self._add(x)

    def _settle(self, wanted):
        """Decides all numbers up to the last one of a free set as if the least possible numbers were forbidden."""
        chosen = {x: True for x in wanted}
        for x in range(self._position + 1, wanted[-1] + 1):
            if x in chosen:
                self._add(x)
            elif not is_covered(self._members, self._present, x):
                self._barred[x] = True
        self._position = wanted[-1]

    def _edit(self, name, numbers):
        """Makes the edits with this name, all of them as one change or none."""
        for number in numbers:
            check_number(number)
        reserved = dict(self._reserved)
        forbidden = dict(self._forbidden)
        for number in numbers:
            reason = self._refusal(name, number, reserved, forbidden)
            if reason is not None:
                raise Refused(reason)
            if name == "reserve":
                reserved[number] = True
            elif name == "forbid":
                forbidden[number] = True
            else:
                reserved.pop(number, None)
                forbidden.pop(number, None)
            if max(len(reserved), len(forbidden)) > self.MAX_EDITS:
                raise TooLarge(self.MAX_EDITS)
        self._remember()
        self._reserved = reserved
        self._forbidden = forbidden

    def _refusal(self, name, number, reserved, forbidden):
        """The reason for which the edit of a number is refused at its turn, or None."""
        if number <= self._position:
            return "decided"
        if name == "release":
            if number in reserved or number in forbidden:
                return None
            return "absent"
        if number in reserved:
            return "reserved"
        if number in forbidden:
            return "forbidden"
        if name == "reserve":
            return joining_triple(self._members, self._present, reserved, number)
        return None

    def _cell_below(self, modulus):
        """The cell of the members below the modulus, or None if it cannot determine all later members."""
        if self._reserved or self._forbidden or self._position < modulus - 1:
            return None
        try:
            return Cell(modulus, self._members[:count_below(self._members, modulus)])
        except (InvalidMembers, NotFree, NotServed):
            return None

    def _has_members_of(self, sequence):
        """True if the members up to the position are those of the sequence."""
        if sequence.rank(self._position + 1) != len(self._members):
            return False
        return all([x == y for x, y in zip(self._members, sequence.walk())])

    def __eq__(self, other):
        if not isinstance(other, Growing):
            return False
        sets = self._members == other._members and self._position == other._position
        return sets and self._reserved == other._reserved and self._forbidden == other._forbidden

    def __len__(self):
        return len(self._members)

    def __repr__(self):
        return f"Growing({self._position})"


class LoggedGrowing(Growing):
    """A growing set that lists the edits that were refused."""

    def __init__(self, start):
        super().__init__(start)
        self._refusals = []

    @property
    def refusals(self):
        """The pairs (name, reason) of the edits that were refused, a tuple."""
        return tuple(self._refusals)

    def copy(self):
        """An independent growing set of the same class in the same state, with the same refusals."""
        other = super().copy()
        other._refusals = list(self._refusals)
        return other

    def _edit(self, name, numbers):
        """Makes the edits, and lists the reason if they are refused."""
        try:
            super()._edit(name, numbers)
        except Refused as refusal:
            self._refusals.append((name, refusal.reason))
            raise

    def __repr__(self):
        return f"LoggedGrowing({self._position})"
