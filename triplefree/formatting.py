"""The texts of numbers, cells and catalogues."""

from triplefree.cells import Cell
from triplefree.common import MAX_NAMES, check_number, is_cell_name
from triplefree.errors import InvalidCell

# What is written for an empty sequence and an empty catalogue.
EMPTY = "-"


def numbers_text(numbers):
    """The text of a list or tuple of integers of at least 0."""
    if not numbers:
        return EMPTY
    return " ".join([str(number) for number in numbers])


def format_numbers(*numbers):
    """The text of any number of integers of at least 0."""
    for number in numbers:
        check_number(number)
    return numbers_text(numbers)


def names_text(cells):
    """The names of a catalogue in ascending order."""
    if not cells:
        return EMPTY
    return " ".join(sorted(cells))


def catalogue_text(cells):
    """The text of the catalogue that a dict from names to cells stands for."""
    if not cells:
        return EMPTY
    return "\n".join([name + " " + str(cells[name]) for name in sorted(cells)])


def check_catalogue(cells):
    """Raises InvalidCell unless a dict, whose keys are strings, stands for a catalogue."""
    for name in cells:
        if not is_cell_name(name):
            raise InvalidCell("name")
    if len(cells) > MAX_NAMES:
        raise InvalidCell("names")
    for name in sorted(cells):
        if not isinstance(cells[name], Cell):
            raise InvalidCell(name)


def format_catalogue(**cells):
    """The text of the catalogue with these names and cells."""
    check_catalogue(cells)
    return catalogue_text(cells)
