"""Products of cells, their factors, and stacks of more cells than one product can hold."""

from triplefree.base import base_member, in_base, plain_pair, ternary_text, text_rank
from triplefree.cells import Cell, check_cell
from triplefree.common import check_number, count_below, is_between, is_number
from triplefree.errors import InvalidCell, InvalidMembers, NotFree, NothingToUndo, NotServed, TooLarge

# So many copies of any cell but the unit have a product above the greatest modulus.
MANY_COPIES = 15


def check_cells(values):
    """Raises InvalidCell for the first value that is not a cell."""
    for index, value in enumerate(values):
        if not isinstance(value, Cell):
            raise InvalidCell(index)


def product_of_moduli(cells):
    """The modulus of the product, whether or not this is within the limits."""
    modulus = 1
    for cell in cells:
        modulus = modulus * cell.modulus
    return modulus


def product_of_sizes(cells):
    """The number of members of the product, whether or not this is within the limits."""
    size = 1
    for cell in cells:
        size = size * cell.size
    return size


def product(*cells):
    """The product of the cells in this order."""
    check_cells(cells)
    if product_of_moduli(cells) > Cell.MAX_MODULUS:
        raise TooLarge(Cell.MAX_MODULUS)
    if product_of_sizes(cells) > Cell.MAX_MEMBERS:
        raise TooLarge(Cell.MAX_MEMBERS)
    modulus = 1
    members = [0]
    for cell in cells:
        members = [front + modulus * a for a in cell.members for front in members]
        modulus = modulus * cell.modulus
    return Cell(modulus, members)


def power(cell, exponent):
    """The product of so many copies of the cell."""
    check_cell(cell, "cell")
    check_number(exponent)
    copies = [cell] * min(exponent, MANY_COPIES)
    return product(*copies)


def factors_at(cell, modulus):
    """The pair of cells whose product is the cell, the left one with this modulus, or None."""
    if cell.modulus % modulus != 0:
        return None
    remainders = sorted({a % modulus for a in cell.members})
    quotients = sorted({a // modulus for a in cell.members})
    # The product has all sums of a remainder and a quotient, among them all members of the cell.
    if len(remainders) * len(quotients) != cell.size:
        return None
    try:
        return (Cell(modulus, remainders), Cell(cell.modulus // modulus, quotients))
    except (NotFree, NotServed):
        return None


def left_quotient(cell, factor):
    """The cell whose product with the factor, in this order, is the cell, or None."""
    check_cell(cell, "cell")
    check_cell(factor, "factor")
    factors = factors_at(cell, max(1, cell.modulus // factor.modulus))
    if factors is None or factors[1] != factor:
        return None
    return factors[0]


def right_quotient(cell, factor):
    """The cell for which the product of the factor and it is the cell, or None."""
    check_cell(cell, "cell")
    check_cell(factor, "factor")
    factors = factors_at(cell, factor.modulus)
    if factors is None or factors[0] != factor:
        return None
    return factors[1]


def factorizations(cell):
    """Yields the factorizations, ascending by the left modulus."""
    check_cell(cell, "cell")
    for modulus in range(2, cell.modulus // 2 + 1):
        factors = factors_at(cell, modulus)
        if factors is not None:
            yield factors


def first_factorization(cell):
    """The factorization with the least left modulus, or None."""
    for factors in factorizations(cell):
        return factors
    return None


def is_irreducible(cell):
    """True if the cell is not the unit and has no factorization."""
    check_cell(cell, "cell")
    return cell.modulus > 1 and first_factorization(cell) is None


def chain(cell):
    """The tuple of irreducible cells whose product is the cell, each with the least possible modulus."""
    check_cell(cell, "cell")
    parts = []
    rest = cell
    factors = first_factorization(rest)
    while factors is not None:
        parts.append(factors[0])
        rest = factors[1]
        factors = first_factorization(rest)
    if rest.modulus > 1:
        parts.append(rest)
    return tuple(parts)


def coordinates_of(cells, x):
    """The remainders of x for the cells, one after the other, and the quotient that remains."""
    parts = []
    for cell in cells:
        x, remainder = divmod(x, cell.modulus)
        parts.append(remainder)
    return (*parts, x)


def stack_member(cells, number):
    """Member number number of the stack of the cells."""
    x = 0
    modulus = 1
    for cell in cells:
        number, place = divmod(number, cell.size)
        x = x + modulus * cell.members[place]
        modulus = modulus * cell.modulus
    return x + modulus * base_member(number)


def stack_rank(cells, x):
    """The number of members of the stack that are less than x."""
    parts = coordinates_of(cells, x)
    text = ternary_text(parts[-1])
    rank = text_rank(text)
    # True as long as the coordinates behind belong to a member.
    inside = "2" not in text
    for cell, remainder in reversed(list(zip(cells, parts))):
        rank = rank * cell.size
        if inside:
            rank = rank + count_below(cell.members, remainder)
            inside = cell.has(remainder)
    return rank


def composed_pair_of(cells, x):
    """The composed pair of x for the cells, or None."""
    low = 0
    high = 0
    modulus = 1
    for cell in cells:
        x, remainder = divmod(x, cell.modulus)
        y = remainder
        z = remainder
        if not cell.has(remainder):
            y, z = cell.serving_pair(remainder)
            x = x - (2 * z - y) // cell.modulus
        if x < 0:
            return None
        low = low + modulus * y
        high = high + modulus * z
        modulus = modulus * cell.modulus
    y, z = plain_pair(x)
    return (low + modulus * y, high + modulus * z)


def check_height(count):
    """Raises TooLarge for more cells than a stack can have."""
    if count > Stack.MAX_HEIGHT:
        raise TooLarge(Stack.MAX_HEIGHT)


class Stack:
    """The sequence that the product of some cells rules, even if no cell can hold the product."""

    MAX_HEIGHT = 100

    def __init__(self, *cells):
        check_cells(cells)
        check_height(len(cells))
        self._cells = cells

    @classmethod
    def repeated(cls, cell, count):
        """The stack of so many copies of the cell."""
        check_cell(cell, "cell")
        check_number(count)
        check_height(count)
        copies = [cell] * count
        return cls(*copies)

    @staticmethod
    def fits(value):
        """True if a value of any kind is a tuple of cells that is not too long."""
        if not isinstance(value, tuple) or len(value) > Stack.MAX_HEIGHT:
            return False
        return all([isinstance(part, Cell) for part in value])

    @property
    def cells(self):
        """The cells, a tuple."""
        return self._cells

    @property
    def modulus(self):
        """The product of the moduli."""
        return product_of_moduli(self._cells)

    @property
    def size(self):
        """The product of the numbers of members."""
        return product_of_sizes(self._cells)

    @property
    def greatest(self):
        """The greatest start: the greatest member of the product, or 0 without cells."""
        greatest = 0
        modulus = 1
        for cell in self._cells:
            greatest = greatest + modulus * cell.greatest
            modulus = modulus * cell.modulus
        return greatest

    def member(self, number):
        """Member number number, counted from 0."""
        check_number(number)
        return stack_member(self._cells, number)

    def rank(self, x):
        """The number of members that are less than x."""
        check_number(x)
        return stack_rank(self._cells, x)

    def contains(self, x):
        """True if x is a member."""
        check_number(x)
        parts = coordinates_of(self._cells, x)
        return in_base(parts[-1]) and all([cell.has(part) for cell, part in zip(self._cells, parts)])

    def walk(self, start=0):
        """Yields the members from member number start on, without end."""
        check_number(start)
        # A push or drop beside the walk does not change these cells.
        cells = self._cells
        number = start
        while True:
            yield stack_member(cells, number)
            number += 1

    def coordinates(self, x):
        """The coordinates of x, one more than there are cells."""
        check_number(x)
        return coordinates_of(self._cells, x)

    def composed_pair(self, x):
        """The composed pair of x, or None."""
        check_number(x)
        return composed_pair_of(self._cells, x)

    def number_of(self, *coordinates):
        """The number with these coordinates."""
        if len(coordinates) != len(self._cells) + 1:
            raise InvalidMembers(None)
        for index, cell in enumerate(self._cells):
            if not is_between(coordinates[index], 0, cell.modulus - 1):
                raise InvalidMembers(index)
        if not is_number(coordinates[-1]):
            raise InvalidMembers(len(self._cells))
        number = 0
        modulus = 1
        for cell, part in zip(self._cells, coordinates):
            number = number + modulus * part
            modulus = modulus * cell.modulus
        return number + modulus * coordinates[-1]

    def push(self, *cells):
        """Adds cells behind the others."""
        check_cells(cells)
        check_height(len(self._cells) + len(cells))
        self._cells = self._cells + cells

    def drop(self):
        """Removes the last cell and returns it."""
        if not self._cells:
            raise NothingToUndo("the stack has no cell")
        dropped = self._cells[-1]
        self._cells = self._cells[:-1]
        return dropped

    def __len__(self):
        return len(self._cells)

    def __eq__(self, other):
        return isinstance(other, Stack) and self._cells == other._cells
