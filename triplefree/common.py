"""What several files use: checks of arguments and of names, and sets of numbers.

A set of numbers can be kept as the binary digits 1 of one integer, so that one step treats all of them.
"""

from triplefree.errors import InvalidNumber

# How many cells a catalogue can hold, and how long their names can be.
MAX_NAMES = 26
MAX_LETTERS = 8


def is_whole(value):
    """True for the integers, False for every other value of any kind."""
    # Python counts True and False among the integers, the document does not.
    return isinstance(value, int) and not isinstance(value, bool)


def is_number(value):
    """True for the integers of at least 0, False for every other value of any kind."""
    return is_whole(value) and value >= 0


def is_between(value, low, high):
    """True for the integers from low to high, False for every other value of any kind."""
    return is_whole(value) and low <= value <= high


def check_number(value):
    """Raises InvalidNumber unless the value is an integer of at least 0."""
    if not is_number(value):
        raise InvalidNumber(value)


def is_cell_name(value):
    """True for a string of 1 to 8 letters from a to z, False for every other value of any kind."""
    if not isinstance(value, str) or not 1 <= len(value) <= MAX_LETTERS:
        return False
    return all(["a" <= letter <= "z" for letter in value])


def is_covering(pair, x):
    """True for a tuple of two integers of at least 0 that covers x, False for every other value of any kind."""
    if not isinstance(pair, tuple) or len(pair) != 2:
        return False
    y, z = pair
    return is_number(y) and is_number(z) and y < z and 2 * z - y == x


def count_below(numbers, limit):
    """How many of some numbers in ascending order are less than the limit."""
    low = 0
    high = len(numbers)
    while low < high:
        middle = (low + high) // 2
        if numbers[middle] < limit:
            low = middle + 1
        else:
            high = middle
    return low


def bits_of(numbers):
    """The integer whose binary digits 1 have the given numbers as their places."""
    bits = 0
    for number in numbers:
        bits = bits | (1 << number)
    return bits


def places_of(bits):
    """The places of the binary digits 1 in ascending order."""
    text = f"{bits:b}"
    places = []
    at = text.rfind("1")
    while at >= 0:
        places.append(len(text) - 1 - at)
        at = text.rfind("1", 0, at)
    return places


def lowest_place(bits):
    """The least place of a binary digit 1, if there is one."""
    return (bits & -bits).bit_length() - 1


def moved(bits, places):
    """The binary digits, moved up by some places, or down if their number is negative."""
    if places < 0:
        return bits >> -places
    return bits << places


def covered_bits(members):
    """The numbers 2 z - y for all y < z among some numbers in ascending order."""
    greatest = members[-1]
    covered = 0
    mirrored = 0
    for z in members:
        # The numbers y below z stand in mirrored at the places greatest - y.
        covered = covered | moved(mirrored, 2 * z - greatest)
        mirrored = mirrored | (1 << (greatest - z))
    return covered
