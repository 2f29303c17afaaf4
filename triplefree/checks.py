"""Checks of arguments that several files use."""

from triplefree.errors import InvalidNumber


def is_whole(value):
    """True for the integers, False for every other value of any kind."""
    # Python counts True and False among the integers, the document does not.
    return isinstance(value, int) and not isinstance(value, bool)


def is_number(value):
    """True for the integers of at least 0, False for every other value of any kind."""
    return is_whole(value) and value >= 0


def is_between(value, low, high):
    """True for the integers from low to high, False for every other value of any kind."""
    return is_whole(value) and low <= value <= high


def check_number(value):
    """Raises InvalidNumber unless the value is an integer of at least 0."""
    if not is_number(value):
        raise InvalidNumber(value)
