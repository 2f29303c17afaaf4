"""The errors of the package: three base classes, and one class for each kind of failure."""


class SetError(ValueError):
    """The base class of the errors for arguments that are no valid value."""


class StateError(RuntimeError):
    """The base class of the errors for valid values that do not fit the set or its state."""


class LimitError(OverflowError):
    """The base class of the errors for results behind a limit."""


class InvalidNumber(SetError):
    """The given value is not an integer, or not one of those that are allowed."""

    def __init__(self, given):
        super().__init__("not an allowed number")
        self.given = given


class InvalidModulus(SetError):
    """The given value is not an allowed modulus."""

    def __init__(self, given):
        super().__init__("not an allowed modulus")
        self.given = given


class InvalidMembers(SetError):
    """The item at this index is wrong, or with None all the items together."""

    def __init__(self, index):
        super().__init__("not allowed as members")
        self.index = index


class InvalidStart(SetError):
    """The item of the start at this index is wrong, or with None the start itself."""

    def __init__(self, index):
        super().__init__("not the start of a greedy sequence")
        self.index = index


class InvalidCell(SetError):
    """The part with this name or index is not what stands for a cell."""

    def __init__(self, part):
        super().__init__("not a cell, or not a name or sequence of one")
        self.part = part


class InvalidCertificate(SetError):
    """The certificate is wrong in this part."""

    def __init__(self, part):
        super().__init__("not a right certificate")
        self.part = part


class InvalidText(SetError):
    """The word at this place of a text is not allowed; rows and words count from 1."""

    def __init__(self, row, word):
        super().__init__("a word of the text is not allowed at its place")
        self.row = row
        self.word = word


class NotFree(StateError):
    """The three numbers show that a set is not free."""

    def __init__(self, low, middle, high):
        super().__init__("the set contains an evenly spaced triple")
        self.low = low
        self.middle = middle
        self.high = high


class NotServed(StateError):
    """No pair of members serves this remainder."""

    def __init__(self, remainder):
        super().__init__("no pair of members serves a remainder")
        self.remainder = remainder


class IsMember(StateError):
    """The given number is a member."""

    def __init__(self, given):
        super().__init__("the number is a member")
        self.given = given


class NotCovered(StateError):
    """No pair of members covers the given number."""

    def __init__(self, given):
        super().__init__("no pair of members covers the number")
        self.given = given


class NotRuled(StateError):
    """No modulus up to this limit rules the sequence."""

    def __init__(self, limit):
        super().__init__("no modulus up to the limit rules the sequence")
        self.limit = limit


class Refused(StateError):
    """An edit is refused for this reason."""

    def __init__(self, reason):
        super().__init__("the edit is refused")
        self.reason = reason


class NothingToUndo(StateError):
    """There is nothing to take back; constructed with a message."""


class TooLarge(LimitError):
    """The result is behind this limit."""

    def __init__(self, limit):
        super().__init__("the result is behind a limit")
        self.limit = limit
