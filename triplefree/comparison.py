"""Comparisons of ruled sequences, and the cells that stand for the same sequence or a shifted one."""

from triplefree.cells import Cell, check_cell
from triplefree.errors import InvalidCell, NotFree, NotServed
from triplefree.ruled import RuledSequence


def check_ruled(value, part):
    """Raises InvalidCell with this part unless the value is a ruled sequence."""
    if not isinstance(value, RuledSequence):
        raise InvalidCell(part)


def reach_of(one, other):
    """How far from a common first member two sequences can agree without being the same."""
    return max(one.cell.modulus, other.cell.modulus)


def parting(one, other):
    """How many first members two sequences have in common, and the least number that one of them alone has; or None."""
    limit = one.member(0) + reach_of(one, other)
    count = 0
    for x, y in zip(one.walk(), other.walk()):
        if x != y:
            return (count, min(x, y))
        if x >= limit:
            break
        count += 1
    return None


def first_difference(one, other):
    """The least number that is a member of exactly one of the sequences, or None."""
    check_ruled(one, "one")
    check_ruled(other, "other")
    found = parting(one, other)
    if found is None:
        return None
    return found[1]


def agreement(*sequences):
    """The number of first members that all sequences have in common, or None if all have the same members."""
    if not sequences:
        raise InvalidCell("count")
    for index, value in enumerate(sequences):
        check_ruled(value, index)
    counts = []
    for sequence in sequences[1:]:
        found = parting(sequences[0], sequence)
        if found is not None:
            counts.append(found[0])
    return min(counts, default=None)


def translation(one, other):
    """The integer that must be added to the members of one to get those of other, or None."""
    check_ruled(one, "one")
    check_ruled(other, "other")
    first = one.member(0)
    difference = other.member(0) - first
    limit = first + reach_of(one, other)
    for x, y in zip(one.walk(), other.walk()):
        if y - x != difference:
            return None
        if x >= limit:
            break
    return difference


def third_of(cell):
    """The cell with a third of the modulus that rules the same sequence, or None."""
    third, rest = divmod(cell.modulus, 3)
    front = [a for a in cell.members if a < third]
    if rest != 0 or list(cell.members) != front + [a + third for a in front]:
        return None
    try:
        return Cell(third, front)
    except (NotFree, NotServed):
        return None


def reduced(cell):
    """The cell with the least modulus that rules the same sequence."""
    check_cell(cell, "cell")
    found = cell
    lesser = third_of(cell)
    # By [51], the moduli that rule a sequence are the least one and 3, 9, .. times this.
    while lesser is not None:
        found = lesser
        lesser = third_of(found)
    return found


def lowered(cell):
    """The cell with the least member subtracted from all members."""
    check_cell(cell, "cell")
    return Cell(cell.modulus, [a - cell.members[0] for a in cell.members])
