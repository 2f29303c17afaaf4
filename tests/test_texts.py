"""formatting.py and parsing.py: their interface, and points [70] and [71]."""

import itertools
import unittest

from tests.support import GREAT_NUMBERS, HUGE, SMALL_CELLS, Checks, not_integers, not_numbers, plain_base
from tests.test_products import not_cells
from triplefree.cells import Cell
from triplefree.errors import InvalidCell, InvalidNumber, InvalidText
from triplefree.formatting import format_catalogue, format_numbers
from triplefree.parsing import numbers_in, parse_catalogue, parse_cell, parse_numbers
from triplefree.session import Session

BASE = Cell.base()
TEN = Cell(10, (0, 1, 7, 8))
NAMES = ["a", "z", "self", "text", "cell", "abcdefgh", "zzzzzzzz"]
NOT_NAMES = ["", "A", "a1", "abcdefghi", "a b", " a", "a ", "_", "a_b", "-", "a-b", "1", "a\n", "\n", "aB", "."]
# Words that are no integers; none of them is empty.
NOT_INTEGERS = ["-", "-1", "+1", "00", "01", "007", "1.0", "1_000", "x", "0x1", "1e3", ":", "a", "1,", "1" + "0" * 600]
LETTERS = "abcdefghijklmnopqrstuvwxyz"


def not_strings():
    """Values of every kind that are not strings."""
    return [value for value in not_integers() if not isinstance(value, str)] + [0, 1, -1, ["0 1"], BASE]


def of_integers(text):
    """The numbers of a text, found one by one."""
    return tuple(numbers_in(text))


def names_of(count):
    """The first names of two letters, in ascending order."""
    return ["".join(row) for row in itertools.product(LETTERS, repeat=2)][:count]


def cell_texts():
    """The texts of cells, each with the place of its first wrong word, or None if it is right."""
    rows = [(f"{n} : {' '.join(map(str, members))}", None) for n, members in SMALL_CELLS]
    rows += [(word, 1) for word in NOT_INTEGERS]
    rows += [(word + " : 0 1", 1) for word in [*NOT_INTEGERS, "", "0", "20001", "3:", str(HUGE)]]
    rows += [("", 1), (" ", 1), ("3", 2), ("3 ", 2), ("3  : 0 1", 2), ("3 0 1", 2), ("3 :: 0 1", 2), ("3 :0 1", 2)]
    rows += [("3 :", 3), ("3 : ", 3), ("3 :  0 1", 3), ("3 : 3", 3), ("3 : -", 3), ("3 : 00 1", 3), ("3 : x", 3)]
    rows += [("3 : 0 ", 4), ("3 : 0 0", 4), ("3 : 1 0", 4), ("3 : 0 3", 4), ("3 : 0 1 ", 5), ("3 : 0 1 1", 5)]
    rows += [("3 : 0 2 1", 5), ("3 : 0 1 3", 5), ("10 : 0 1 7 10", 6), ("10 : 0 1 7 8 8", 7), ("3 : 0  1", 4)]
    # All words are allowed, but the members are no cell.
    rows += [("3 : 0", 1), ("3 : 0 1 2", 1), ("2 : 0", 1), ("20000 : 0", 1), ("8 : 0 3 4 7", 1), ("1 : 0 ", 4)]
    rows += [(f"20000 : {' '.join(map(str, range(256)))}", 1), (f"20000 : {' '.join(map(str, range(257)))}", 259)]
    rows += [(f"20000 : {' '.join(map(str, range(256)))} x", 259), (f"20000 : {' '.join(map(str, range(300)))}", 259)]
    rows += [(f"20000 : {' '.join(map(str, range(256)))} ", 259), ("3 : 0 1" + " 2" * 300, 6)]
    return rows


class FormatNumbersTest(unittest.TestCase, Checks):
    def test_numbers(self):
        self.same(format_numbers(3, 10), "3 10")
        self.same(format_numbers(), "-")
        self.same(format_numbers(0), "0")
        self.same(format_numbers(10, 3, 3), "10 3 3")
        self.same(format_numbers(HUGE, 0), "9" * 600 + " 0")

    def test_wrong_numbers(self):
        for value in not_numbers():
            self.fails(InvalidNumber, {"given": value}, format_numbers, value)
            self.fails(InvalidNumber, {"given": value}, format_numbers, 0, 5, value, None, -7)


class FormatCatalogueTest(unittest.TestCase, Checks):
    def test_catalogues(self):
        self.same(format_catalogue(), "-")
        self.same(format_catalogue(a=BASE), "a 3 : 0 1")
        self.same(format_catalogue(b=BASE, ab=TEN, a=BASE), "a 3 : 0 1\nab 10 : 0 1 7 8\nb 3 : 0 1")
        for name in NAMES:
            self.same(format_catalogue(**{name: BASE}), name + " 3 : 0 1")

    def test_names(self):
        for name in NOT_NAMES:
            self.fails(InvalidCell, {"part": "name"}, format_catalogue, **{name: BASE})
            self.fails(InvalidCell, {"part": "name"}, format_catalogue, a=None, b=BASE, **{name: None})

    def test_how_many(self):
        names = names_of(26)
        text = format_catalogue(**{name: BASE for name in names})
        self.assertEqual(text.split("\n"), [name + " 3 : 0 1" for name in names])
        for count in (27, 40):
            self.fails(InvalidCell, {"part": "names"}, format_catalogue, **{name: BASE for name in names_of(count)})
            self.fails(InvalidCell, {"part": "names"}, format_catalogue, **{name: None for name in names_of(count)})
            self.fails(InvalidCell, {"part": "name"}, format_catalogue, **{name: None for name in [*names, "A"]})

    def test_wrong_cells(self):
        for value in not_cells():
            self.fails(InvalidCell, {"part": "a"}, format_catalogue, a=value)
            self.fails(InvalidCell, {"part": "ab"}, format_catalogue, b=value, ab=value, a=BASE)
        self.fails(InvalidCell, {"part": "self"}, lambda: format_catalogue(**{"self": None}))


class ParseNumbersTest(unittest.TestCase, Checks):
    def test_numbers(self):
        for call in (parse_numbers, of_integers):
            self.same(call("-"), ())
            self.same(call("0"), (0,))
            self.same(call("3 10"), (3, 10))
            self.same(call("10 3 3 0"), (10, 3, 3, 0))
            self.same(call("9" * 600), (HUGE,))
            self.same(call(" ".join(["7"] * 20000)), (7,) * 20000)
        self.same(parse_numbers(text="5"), (5,))
        self.assertEqual(list(numbers_in(text="5")), [5])

    def test_there_and_back(self):
        for numbers in ((), (0,), (1, 0, 1), tuple(GREAT_NUMBERS), (HUGE,) * 60):
            self.same(parse_numbers(format_numbers(*numbers)), numbers)

    def test_no_strings(self):
        for value in not_strings():
            self.fails(InvalidText, {"row": 0, "word": 0}, parse_numbers, value)
            self.fails_at_first_item(InvalidText, {"row": 0, "word": 0}, numbers_in, value)

    def wrong(self):
        """Wrong texts with their positions."""
        rows = [("", 1, 1), (" ", 1, 1), (" 1", 1, 1), ("1 ", 1, 2), ("1  2", 1, 2), ("1 2 ", 1, 3), ("\n", 1, 1)]
        rows += [(word, 1, 1) for word in NOT_INTEGERS if word != "-"]
        rows += [("5 " + word, 1, 2) for word in NOT_INTEGERS]
        rows += [("5 6 " + word + " 7 -", 1, 3) for word in NOT_INTEGERS]
        rows += [("- ", 1, 2), ("- 1", 1, 2), ("- -", 1, 2), ("-\n", 2, 1), ("-\n-", 2, 1), ("-\n1", 2, 1), ("- \n", 1, 2)]
        rows += [("1\n", 2, 1), ("1\n2", 2, 1), ("1 2\n\n", 2, 1), ("1 x\n2", 1, 2), ("\n1", 1, 1), ("--", 1, 1), ("-1", 1, 1)]
        return rows

    def test_wrong_texts(self):
        for text, row, word in self.wrong():
            self.fails(InvalidText, {"row": row, "word": word}, parse_numbers, text)

    def test_numbers_in_raises_when_it_reaches_the_word(self):
        for text, row, word in self.wrong():
            items = numbers_in(text)
            good = text.split("\n")[0].split(" ") if row == 2 else text.split(" ")[:word - 1]
            for number in [int(part) for part in good if part != "-"]:
                self.same(next(items), number)
            self.fails(InvalidText, {"row": row, "word": word}, next, items)

    def test_other_digits(self):
        # Strings hold other characters only if a caller does not keep to the document.
        for text in ("\u0661", "\u00b2", "1\t2", "1\r", "\uff11"):
            self.fails(InvalidText, {"row": 1, "word": 1}, parse_numbers, text)


class ParseCellTest(unittest.TestCase, Checks):
    def test_there_and_back(self):
        for row in [*SMALL_CELLS, (3 ** 8, tuple(plain_base(3 ** 8)))]:
            cell = Cell(*row)
            self.same(parse_cell(str(cell)), cell)
        self.same(parse_cell(text="3 : 0 1"), BASE)

    def test_no_strings(self):
        for value in not_strings():
            self.fails(InvalidText, {"row": 0, "word": 0}, parse_cell, value)

    def test_texts(self):
        self.fails(InvalidText, {"row": 1, "word": 5}, parse_cell, "3 : 0 2 1")
        for text, place in cell_texts():
            if place is None:
                self.same(str(parse_cell(text)), text)
            else:
                self.fails(InvalidText, {"row": 1, "word": place}, parse_cell, text)

    def test_a_second_line(self):
        for text, place in cell_texts():
            for rest in ("\n", "\n\n", "\n3 : 0 1", "\nx"):
                # The first line is examined completely before the second one.
                position = {"row": 2, "word": 1} if place is None else {"row": 1, "word": place}
                self.fails(InvalidText, position, parse_cell, text + rest)


class ParseCatalogueTest(unittest.TestCase, Checks):
    def test_there_and_back(self):
        rows = [{}, {"a": BASE}, {"b": BASE, "a": TEN, "ab": BASE}, {name: TEN for name in names_of(26)}]
        rows += [{name: BASE for name in NAMES}]
        for cells in rows:
            found = parse_catalogue(format_catalogue(**cells))
            self.same(found, cells)
            self.assertEqual(list(found), sorted(cells))
        self.same(parse_catalogue(text="-"), {})

    def test_the_dict_belongs_to_the_caller(self):
        found = parse_catalogue("-")
        found["a"] = 1
        self.same(parse_catalogue("-"), {})

    def test_no_strings(self):
        for value in not_strings():
            self.fails(InvalidText, {"row": 0, "word": 0}, parse_catalogue, value)

    def test_lines(self):
        for text, place in cell_texts():
            for front, row in (("", 1), ("a 3 : 0 1\n", 2), ("a 3 : 0 1\nab 1 : 0\n", 3)):
                whole = front + "b " + text
                if place is None:
                    self.same(parse_catalogue(whole)["b"], parse_cell(text))
                else:
                    self.fails(InvalidText, {"row": row, "word": place + 1}, parse_catalogue, whole)
                    # What follows does not matter.
                    self.fails(InvalidText, {"row": row, "word": place + 1}, parse_catalogue, whole + "\na x")

    def test_names(self):
        for name in NAMES:
            self.same(list(parse_catalogue(name + " 3 : 0 1")), [name])
        for name in ["", "A", "a1", "abcdefghi", "_", "a_b", "a-b", "1", "aB", ".", ":"]:
            self.fails(InvalidText, {"row": 1, "word": 1}, parse_catalogue, name + " 3 : 0 1")
            self.fails(InvalidText, {"row": 2, "word": 1}, parse_catalogue, "a 3 : 0 1\n" + name + " 3 : 0 1")

    def test_the_order_of_the_names(self):
        for first, second in (("b", "a"), ("a", "a"), ("ab", "a"), ("b", "ab"), ("aa", "aa")):
            text = first + " 3 : 0 1\n" + second + " 3 : 0 1"
            self.fails(InvalidText, {"row": 2, "word": 1}, parse_catalogue, text)
        # The name is the first word that is not allowed, whatever the cell is.
        self.fails(InvalidText, {"row": 2, "word": 1}, parse_catalogue, "b 3 : 0 1\na 3 : 0 0")

    def test_a_line_is_examined_before_the_next_one(self):
        self.fails(InvalidText, {"row": 1, "word": 2}, parse_catalogue, "a 3 : 0\nB 3 : 0 1")
        self.fails(InvalidText, {"row": 2, "word": 2}, parse_catalogue, "a 3 : 0 1\nb 3 : 0 1 2\na")
        self.fails(InvalidText, {"row": 1, "word": 2}, parse_catalogue, "a 3 : 0 1 2\na 3 : 0 1")

    def test_missing_words(self):
        self.fails(InvalidText, {"row": 1, "word": 1}, parse_catalogue, "")
        self.fails(InvalidText, {"row": 1, "word": 2}, parse_catalogue, "a")
        self.fails(InvalidText, {"row": 1, "word": 3}, parse_catalogue, "a 3")
        self.fails(InvalidText, {"row": 1, "word": 4}, parse_catalogue, "a 3 :")
        self.fails(InvalidText, {"row": 2, "word": 1}, parse_catalogue, "a 3 : 0 1\n")
        self.fails(InvalidText, {"row": 2, "word": 1}, parse_catalogue, "a 3 : 0 1\n\nb 3 : 0 1")

    def test_too_many_lines(self):
        lines = [name + " 3 : 0 1" for name in names_of(28)]
        self.same(len(parse_catalogue("\n".join(lines[:26]))), 26)
        for rest in (lines[26], "\n".join(lines[26:]), "x", "", "A 3 : 0 1", "zz 3 : 0", "aa 3 : 0 1"):
            self.fails(InvalidText, {"row": 27, "word": 1}, parse_catalogue, "\n".join([*lines[:26], rest]))
        broken = "\n".join([*lines[:25], "zz 3 : 0", lines[26]])
        self.fails(InvalidText, {"row": 26, "word": 2}, parse_catalogue, broken)

    def test_nothing(self):
        for text in ("- ", "- a", "- 3 : 0 1", "- -", "- \na 3 : 0 1"):
            self.fails(InvalidText, {"row": 1, "word": 2}, parse_catalogue, text)
        for text in ("-\n", "-\n-", "-\na 3 : 0 1"):
            self.fails(InvalidText, {"row": 2, "word": 1}, parse_catalogue, text)
        self.fails(InvalidText, {"row": 2, "word": 1}, parse_catalogue, "a 3 : 0 1\n-")
        self.fails(InvalidText, {"row": 1, "word": 1}, parse_catalogue, "--")


class NamesTest(unittest.TestCase, Checks):
    def test_is_name(self):
        for name in NAMES:
            self.same(Session.is_name(name), True)
            self.same(Session.is_name(value=name), True)
        for value in [*NOT_NAMES, *not_strings(), ["a"], ("a",), b"a", {"a": 1}, "\u00e4", "\u0430"]:
            self.same(Session.is_name(value), False)
        self.same(Session().is_name("a"), True)


if __name__ == "__main__":
    unittest.main()
