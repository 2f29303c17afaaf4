"""Sessions: catalogues of cells that commands change and ask."""

from triplefree.cells import Cell
from triplefree.common import is_cell_name
from triplefree.errors import (
    InvalidCell, InvalidCertificate, InvalidNumber, InvalidText, IsMember, NotCovered, NothingToUndo, TooLarge,
)
from triplefree.formatting import EMPTY, catalogue_text, check_catalogue, names_text, numbers_text
from triplefree.parsing import cell_at, lines_of, name_at, number_at, parse_catalogue
from triplefree.products import product
from triplefree.ruled import RuledSequence, ShiftedSequence, tripled_cell

# What follows the first word of a command: n is a name, f the name of a cell that must exist, i an integer.
SHAPES = {
    "copy": "nf",
    "drop": "f",
    "base": "ni",
    "tripled": "nf",
    "undo": "",
    "show": "f",
    "names": "",
    "same": "ff",
    "member": "fi",
    "rank": "fi",
    "gap": "fi",
    "next": "fi",
    "last": "fi",
    "list": "fii",
    "cover": "fi",
    "serve": "fi",
}
NAME_FAULTS = {"name": "unknown name", "names": "too many names"}


def shape_of(words):
    """What must follow the first word of a command; raises InvalidText if no command begins with it."""
    if words[0] == "product":
        # One name for the product, and one factor or more.
        return "nf" + "f" * (len(words) - 3)
    if words[0] not in SHAPES:
        raise InvalidText(1, 1)
    return SHAPES[words[0]]


def parsed(command):
    """The first word of a command, the shape and the list of what follows; raises InvalidText for anything else."""
    rows = lines_of(command)
    if len(rows) > 1:
        raise InvalidText(2, 1)
    words = rows[0]
    if words[0] == "set":
        return "set", "nc", [name_at(words, 1, 1), cell_at(words, 1, 2)]
    shape = shape_of(words)
    parts = []
    for index, letter in enumerate(shape):
        if letter == "i":
            parts.append(number_at(words, 1, index + 1, 0, None))
        else:
            parts.append(name_at(words, 1, index + 1))
    if len(words) > len(shape) + 1:
        raise InvalidText(1, len(shape) + 2)
    return words[0], shape, parts


def given_cell(parts):
    """The cell itself."""
    return parts[0]


def base_cell(parts):
    """The base cell with so many digits."""
    return Cell.base(digits=parts[0])


def product_cell(parts):
    """The product of the cells."""
    return product(*parts)


def cell_of_tripled(parts):
    """The cell with three times the modulus."""
    return tripled_cell(parts[0])


def show_answer(parts):
    """The text of the cell."""
    return str(parts[0])


def same_answer(parts):
    """Whether the cells are equal."""
    if parts[0] == parts[1]:
        return "yes"
    return "no"


def member_answer(parts):
    """The member with this number."""
    return str(RuledSequence(parts[0]).member(parts[1]))


def rank_answer(parts):
    """The rank of the number."""
    return str(RuledSequence(parts[0]).rank(parts[1]))


def gap_answer(parts):
    """The gap with this number."""
    return str(RuledSequence(parts[0]).gap(parts[1]))


def next_answer(parts):
    """The least member greater than the number."""
    return str(RuledSequence(parts[0]).next_member(parts[1]))


def last_answer(parts):
    """The greatest member not greater than the number, if there is one."""
    member = RuledSequence(parts[0]).last_member(parts[1])
    if member is None:
        return EMPTY
    return str(member)


def list_answer(parts):
    """Some members, one after the other."""
    cell, first, count = parts
    if count > Session.MAX_LISTED:
        raise InvalidNumber(count)
    sequence = RuledSequence(cell)
    return numbers_text([sequence.member(number) for number in range(first, first + count)])


def cover_answer(parts):
    """The ruling pair of the number, or why there is none."""
    try:
        return numbers_text(RuledSequence(parts[0]).cover(parts[1]))
    except IsMember:
        return "member"
    except NotCovered:
        return "open"


def serve_answer(parts):
    """The serving pair of the remainder and its carry, if it is not a member."""
    cell, remainder = parts
    try:
        y, z = cell.serving_pair(remainder)
    except IsMember:
        return "member"
    return numbers_text((y, z, cell.carry(remainder)))


MADE = {
    "set": given_cell,
    "copy": given_cell,
    "base": base_cell,
    "product": product_cell,
    "tripled": cell_of_tripled,
}
ANSWERS = {
    "show": show_answer,
    "same": same_answer,
    "member": member_answer,
    "rank": rank_answer,
    "gap": gap_answer,
    "next": next_answer,
    "last": last_answer,
    "list": list_answer,
    "cover": cover_answer,
    "serve": serve_answer,
}


def member_asked(sequence, number):
    """The member with this number."""
    return sequence.member(number)


def rank_asked(sequence, number):
    """The rank of the number."""
    return sequence.rank(number)


def next_asked(sequence, number):
    """The least member greater than the number."""
    return sequence.next_member(number)


def last_asked(sequence, number):
    """The greatest member not greater than the number, or None."""
    return sequence.last_member(number)


def cover_asked(sequence, number):
    """The ruling pair of the number, or None."""
    try:
        return sequence.cover(number)
    except (IsMember, NotCovered):
        return None


QUESTIONS = {
    "member": member_asked,
    "rank": rank_asked,
    "next": next_asked,
    "last": last_asked,
    "cover": cover_asked,
}


class Session:
    """A catalogue of cells, changed by commands that can be taken back."""

    MAX_NAMES = 26
    MAX_LISTED = 1000

    def __init__(self, **cells):
        check_catalogue(cells)
        # This dict is replaced, never changed, so that the changes to undo can keep it.
        self._cells = cells
        self._changes = []

    @classmethod
    def restore(cls, text):
        """A session of this class with the cells of a text."""
        cells = parse_catalogue(text)
        restored = cls()
        # A name that a call could not pass by keyword may be among them.
        restored._cells = cells
        return restored

    @staticmethod
    def is_name(value):
        """True for a name, False for any other value of any kind."""
        return is_cell_name(value)

    @property
    def names(self):
        """The ascending tuple of the names."""
        return tuple(sorted(self._cells))

    @property
    def text(self):
        """The text of the catalogue."""
        return catalogue_text(self._cells)

    def execute(self, command):
        """Executes a command and returns the answer."""
        return self._run(command)[0]

    def attempt(self, *commands):
        """Executes some commands, all of them or none; the answers, or the answer of the one that fails."""
        cells = self._cells
        changes = list(self._changes)
        answers = []
        for command in commands:
            answer, failed = self._run(command)
            if failed:
                self._cells = cells
                self._changes = changes
                return answer
            answers.append(answer)
        return tuple(answers)

    def replay(self, *commands):
        """Yields the answers of some commands, each executed when its answer is asked for, up to one that fails."""
        for command in commands:
            answer, failed = self._run(command)
            yield answer
            if failed:
                return

    def ask(self, question, *numbers, cell, shift=0):
        """The tuple of the answers to one question about several numbers."""
        sequence = ShiftedSequence(self.lookup(cell), shift=shift)
        if not isinstance(question, str) or question not in QUESTIONS:
            raise InvalidCertificate("question")
        asked = QUESTIONS[question]
        return tuple([asked(sequence, number) for number in numbers])

    def lookup(self, name):
        """The cell under a name."""
        # Only names are looked for, because some other values cannot be keys.
        if not is_cell_name(name) or name not in self._cells:
            raise InvalidCell("name")
        return self._cells[name]

    def load(self, text):
        """Replaces all cells by those of a text."""
        self._change(parse_catalogue(text))

    def _run(self, command):
        """Executes a command; the answer, and True if it failed."""
        try:
            return self._answer(command), False
        except InvalidText:
            answer = "syntax error"
        except InvalidCell as fault:
            answer = NAME_FAULTS[fault.part]
        except InvalidNumber:
            answer = "invalid number"
        except TooLarge:
            answer = "too large"
        except NothingToUndo:
            answer = "nothing to undo"
        # The answer alone does not tell: these words can also be the names of a catalogue.
        return answer, True

    def _answer(self, command):
        """The answer to a command; raises an error, and changes nothing, if it fails."""
        word, shape, parts = parsed(command)
        found = [self.lookup(part) if letter == "f" else part for letter, part in zip(shape, parts)]
        if word in ANSWERS:
            answer = ANSWERS[word]
            return answer(found)
        if word == "names":
            return names_text(self._cells)
        if word == "undo":
            self._undo()
        elif word == "drop":
            self._change({name: self._cells[name] for name in self._cells if name != parts[0]})
        else:
            self._make(word, parts[0], found[1:])
        return "ok"

    def _make(self, word, name, parts):
        """Creates a cell under a name."""
        if name not in self._cells and len(self._cells) >= self.MAX_NAMES:
            raise InvalidCell("names")
        make = MADE[word]
        cells = dict(self._cells)
        cells[name] = make(parts)
        self._change(cells)

    def _undo(self):
        """Takes back the latest change."""
        if not self._changes:
            raise NothingToUndo("the session has no change to take back")
        self._cells = self._changes.pop()

    def _change(self, cells):
        """Replaces the catalogue as one change that can be taken back."""
        self._changes.append(self._cells)
        self._cells = cells

    def __len__(self):
        return len(self._cells)

    def __eq__(self, other):
        return isinstance(other, Session) and self._cells == other._cells


class Recorder(Session):
    """A session that lists the commands that were executed, and their answers."""

    def __init__(self, **cells):
        super().__init__(**cells)
        self._transcript = []

    @property
    def transcript(self):
        """The list of the pairs (command, answer) of all commands that were executed."""
        return list(self._transcript)

    def _run(self, command):
        """Executes a command and lists it; the answer, and True if it failed."""
        answer, failed = super()._run(command)
        shown = None
        if isinstance(command, str):
            shown = command
        self._transcript.append((shown, answer))
        return answer, failed
