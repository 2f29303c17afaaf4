"""The values of texts: numbers, cells and catalogues."""

from triplefree.cells import Cell
from triplefree.common import MAX_NAMES, is_cell_name
from triplefree.errors import InvalidText, NotFree, NotServed
from triplefree.formatting import EMPTY

MAX_DIGITS = 600


def lines_of(text):
    """The list of the lines of a text, each as the list of its words; raises InvalidText if it is not a string."""
    if not isinstance(text, str):
        raise InvalidText(0, 0)
    return [line.split(" ") for line in text.split("\n")]


def is_integer_word(word):
    """True for an integer of at least 0, written as texts write it."""
    if not 1 <= len(word) <= MAX_DIGITS or not word.isascii() or not word.isdigit():
        return False
    return word == "0" or not word.startswith("0")


def number_at(words, row, place, low, high):
    """The integer from low to high that is the word at this place of a row, counted from 0; high may be None."""
    if place < len(words) and is_integer_word(words[place]):
        number = int(words[place])
        if number >= low and (high is None or number <= high):
            return number
    raise InvalidText(row, place + 1)


def name_at(words, row, place):
    """The name that is the word at this place of a row, counted from 0."""
    if place < len(words) and is_cell_name(words[place]):
        return words[place]
    raise InvalidText(row, place + 1)


def cell_at(words, row, front):
    """The cell whose text begins at this place of a row, counted from 0, and ends with the row."""
    modulus = number_at(words, row, front, 1, Cell.MAX_MODULUS)
    if words[front + 1:front + 2] != [":"]:
        raise InvalidText(row, front + 2)
    members = []
    least = 0
    # Without members, the place of the first one is behind the last word.
    for place in range(front + 2, max(len(words), front + 3)):
        if len(members) == Cell.MAX_MEMBERS:
            raise InvalidText(row, place + 1)
        members.append(number_at(words, row, place, least, modulus - 1))
        least = members[-1] + 1
    try:
        return Cell(modulus, members)
    except (NotFree, NotServed):
        raise InvalidText(row, front + 1)


def is_empty(rows):
    """True for the text of nothing; raises InvalidText if something follows it."""
    if rows[0][0] != EMPTY:
        return False
    if len(rows[0]) > 1:
        raise InvalidText(1, 2)
    if len(rows) > 1:
        raise InvalidText(2, 1)
    return True


def numbers_in(text):
    """Yields the integers of a text one by one; raises InvalidText where it is reached."""
    rows = lines_of(text)
    if is_empty(rows):
        return
    words = rows[0]
    for place in range(len(words)):
        yield number_at(words, 1, place, 0, None)
    if len(rows) > 1:
        raise InvalidText(2, 1)


def parse_numbers(text):
    """The tuple of the integers of a text."""
    return tuple(numbers_in(text))


def parse_cell(text):
    """The cell of a text."""
    rows = lines_of(text)
    cell = cell_at(rows[0], 1, 0)
    if len(rows) > 1:
        raise InvalidText(2, 1)
    return cell


def parse_catalogue(text):
    """The dict from the names, in ascending order, to the cells of a text."""
    rows = lines_of(text)
    cells = {}
    if is_empty(rows):
        return cells
    last = ""
    for index, words in enumerate(rows):
        name = name_at(words, index + 1, 0)
        if index == MAX_NAMES or name <= last:
            raise InvalidText(index + 1, 1)
        cells[name] = cell_at(words, index + 1, 1)
        last = name
    return cells
