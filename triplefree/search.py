"""The search for the moduli that rule a greedy sequence, and for the cells with a modulus."""

from triplefree.cells import Cell, check_cell
from triplefree.common import bits_of, count_below, covered_bits, is_between, is_whole
from triplefree.errors import InvalidCertificate, InvalidModulus, InvalidNumber, NotFree, NotRuled, NotServed
from triplefree.greedy import GreedySequence
from triplefree.ruled import RuledSequence

MAX_SEARCH = 729
MAX_LISTED_MODULUS = 12


def members_below(sequence, limit):
    """The list of the members of a greedy sequence that are less than a limit, which is not behind its horizon."""
    members = []
    for x in sequence.walk():
        if x >= limit:
            break
        members.append(x)
    return members


def check_modulus(sequence, modulus):
    """Raises InvalidModulus unless there can be a verdict on the modulus."""
    if not is_between(modulus, sequence.last + 1, MAX_SEARCH):
        raise InvalidModulus(modulus)


def check_most(most):
    """Raises InvalidNumber unless the moduli up to this one can be searched."""
    if not is_between(most, 1, MAX_SEARCH):
        raise InvalidNumber(most)


def has_form(certificate):
    """True if a value of any kind has the form of a certificate."""
    if not isinstance(certificate, tuple) or len(certificate) < 2:
        return False
    word, *numbers = certificate
    if not isinstance(word, str) or not all([is_whole(number) for number in numbers]):
        return False
    if word == "clash":
        return len(numbers) == 3
    if word == "unserved":
        return len(numbers) == 1
    return word == "rules"


def is_cell(modulus, members):
    """True if the members of a sequence below a modulus form a cell with it."""
    return Cell.violation(modulus, members) is None


def is_clash(modulus, members, numbers):
    """True if the three numbers are members that violate (a) of [20]."""
    y, z, x = numbers
    if y not in members or z not in members or x not in members:
        return False
    return (2 * z - y - x) % modulus == 0 and not y == z == x


def is_unserved(modulus, members, remainder):
    """True if the number is a remainder that violates (b) of [20]."""
    if not is_between(remainder, 0, modulus - 1):
        return False
    covered = covered_bits(members)
    # No member and no pair from the modulus on serves more than it should: see first_unserved in cells.py.
    served = bits_of(members) | covered | (covered >> modulus)
    return (served >> remainder) & 1 == 0


class Verdict:
    """What a modulus says about a start; this class itself says nothing."""

    WORD = "open"

    def __init__(self, start, modulus):
        self._start = start
        self._modulus = modulus

    @classmethod
    def of(cls, start, modulus):
        """The verdict of the modulus on the start."""
        sequence = GreedySequence(start)
        check_modulus(sequence, modulus)
        try:
            cell = Cell(modulus, members_below(sequence, modulus))
        except NotFree as clash:
            return Clash(sequence.start, modulus, (clash.low, clash.middle, clash.high))
        except NotServed as lack:
            return Unserved(sequence.start, modulus, lack.remainder)
        return Ruling(sequence.start, modulus, cell)

    @staticmethod
    def check(start, modulus, certificate):
        """Raises InvalidCertificate unless the certificate is right."""
        sequence = GreedySequence(start)
        check_modulus(sequence, modulus)
        if not has_form(certificate):
            raise InvalidCertificate("form")
        word, *numbers = certificate
        members = members_below(sequence, modulus)
        if word == "rules":
            right = numbers == members and is_cell(modulus, members)
        elif word == "clash":
            right = is_clash(modulus, members, numbers)
        else:
            right = is_unserved(modulus, members, numbers[0])
        if not right:
            raise InvalidCertificate(word)

    @property
    def start(self):
        """The start, a tuple."""
        return self._start

    @property
    def modulus(self):
        """The modulus."""
        return self._modulus

    def is_ruling(self):
        """True if the modulus rules the greedy sequence of the start."""
        return False

    def certificate(self):
        """The tuple of the word and the numbers that show it."""
        return (self.WORD,)


class Ruling(Verdict):
    """The modulus rules the greedy sequence of the start."""

    WORD = "rules"

    def __init__(self, start, modulus, cell):
        super().__init__(start, modulus)
        self._cell = cell

    @property
    def cell(self):
        """The cell of the members below the modulus."""
        return self._cell

    def is_ruling(self):
        """True."""
        return True

    def certificate(self):
        """The word and the members below the modulus."""
        members = self._cell.members
        return (self.WORD, *members)

    def as_sequence(self):
        """The ruled sequence, which is the greedy sequence of the start."""
        return RuledSequence(self._cell)


class Clash(Verdict):
    """The members below the modulus violate (a) of [20]."""

    WORD = "clash"

    def __init__(self, start, modulus, triple):
        super().__init__(start, modulus)
        self._triple = triple

    def certificate(self):
        """The word and the smallest triple of members that violates (a)."""
        y, z, x = self._triple
        return (self.WORD, y, z, x)


class Unserved(Verdict):
    """The members below the modulus violate (b) of [20], but not (a)."""

    WORD = "unserved"

    def __init__(self, start, modulus, remainder):
        super().__init__(start, modulus)
        self._remainder = remainder

    def certificate(self):
        """The word and the smallest remainder that violates (b)."""
        return (self.WORD, self._remainder)


def least_ruling(sequence, most):
    """The cell with the least modulus up to most that rules the sequence, or None."""
    members = []
    if sequence.last < most:
        members = members_below(sequence, most)
    for modulus in range(sequence.last + 1, most + 1):
        try:
            return Cell(modulus, members[:count_below(members, modulus)])
        except (NotFree, NotServed):
            continue
    return None


def ruling(start, *, most=81):
    """The sequence that the cell with the least ruling modulus rules."""
    sequence = GreedySequence(start)
    check_most(most)
    cell = least_ruling(sequence, most)
    if cell is None:
        raise NotRuled(most)
    return RuledSequence(cell)


def moduli(start, *, most=81):
    """Yields all moduli up to most that rule the greedy sequence of the start, in ascending order."""
    sequence = GreedySequence(start)
    check_most(most)
    cell = least_ruling(sequence, most)
    if cell is not None:
        modulus = cell.modulus
        # By [51] there are no others.
        while modulus <= most:
            yield modulus
            modulus = 3 * modulus


def cells_of(modulus):
    """Yields all cells with this modulus, ascending by their members."""
    if not is_between(modulus, 1, MAX_LISTED_MODULUS):
        raise InvalidModulus(modulus)
    waiting = [(a,) for a in reversed(range(modulus))]
    while waiting:
        members = waiting.pop()
        fault = Cell.violation(modulus, members)
        if fault is None:
            yield Cell(modulus, members)
        # More members leave a violation of (a) as it is.
        if fault is None or fault[0] != "free":
            waiting.extend([(*members, a) for a in reversed(range(members[-1] + 1, modulus))])


def least_start(cell):
    """The shortest start of the sequence that the cell rules, a tuple."""
    check_cell(cell, "cell")
    gaps = cell.open_numbers()
    if not gaps:
        return cell.members[:1]
    # A start that ends below a number that is neither a member nor covered would have it as its next member.
    return cell.members[:count_below(cell.members, gaps[-1]) + 1]
