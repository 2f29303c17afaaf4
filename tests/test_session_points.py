"""Points [72] and [73]: the commands, their answers, and what fails first."""

import itertools
import unittest

from tests.support import GREAT_NUMBERS, HUGE, SMALL_CELLS, Checks, plain_pairs, plain_ruled, plain_servers
from tests.test_texts import NAMES, NOT_INTEGERS, cell_texts, names_of, not_strings
from triplefree.cells import Cell
from triplefree.errors import NotCovered
from triplefree.products import product
from triplefree.ruled import RuledSequence
from triplefree.session import Recorder, Session

BASE = Cell.base()
TEN = Cell(10, (0, 1, 7, 8))
UNIT = Cell(1, (0,))
FEW = SMALL_CELLS[::3]
# Right commands for a session with the cells a and b, one for each row of the table and each kind of word.
COMMANDS = [
    "set c 3 : 0 1",
    "copy c a",
    "drop a",
    "base c 2",
    "product c a",
    "product c a b a",
    "tripled c a",
    "show a",
    "names",
    "same a b",
    "member a 5",
    "rank a 5",
    "gap a 5",
    "next a 5",
    "last a 5",
    "list a 5 2",
    "cover a 5",
    "serve a 2",
]
MAKING = [command for command in COMMANDS if " c " in command]


def full():
    """A session that holds as many cells as it can, a and b among them."""
    names = ["a", "b", *names_of(25)[1:]]
    cells = {name: TEN for name in names}
    return Session(**{**cells, "a": BASE})


def two():
    """A session with two cells."""
    return Session(a=BASE, b=TEN)


class MakingTest(unittest.TestCase, Checks):
    def made(self, session, command, name):
        """The cell that a command creates."""
        self.same(session.execute(command), "ok")
        return session.lookup(name)

    def test_set(self):
        for row in SMALL_CELLS:
            cell = Cell(*row)
            for name in NAMES:
                self.same(self.made(Session(), f"set {name} {cell}", name), cell)
        self.same(self.made(two(), "set a 1 : 0", "a"), UNIT)

    def test_copy(self):
        session = two()
        self.same(self.made(session, "copy c b", "c"), TEN)
        self.same(self.made(session, "copy a b", "a"), TEN)
        self.same(self.made(session, "copy a a", "a"), TEN)
        self.assertEqual(session.names, ("a", "b", "c"))

    def test_drop(self):
        session = two()
        self.same(session.execute("drop a"), "ok")
        self.assertEqual(session, Session(b=TEN))
        self.same(session.execute("drop a"), "unknown name")
        self.same(session.execute("drop b"), "ok")
        self.assertEqual(session.text, "-")

    def test_base(self):
        for digits in range(9):
            self.same(self.made(two(), f"base a {digits}", "a"), Cell.base(digits=digits))

    def test_product(self):
        for count in (1, 2, 3):
            for names in itertools.product("ab", repeat=count):
                cells = [{"a": BASE, "b": TEN}[name] for name in names]
                self.same(self.made(two(), "product c " + " ".join(names), "c"), product(*cells))
        self.same(self.made(two(), "product a a b", "a"), product(BASE, TEN))
        self.same(self.made(Session(u=UNIT), "product c" + " u" * 500, "c"), UNIT)

    def test_tripled(self):
        for row in SMALL_CELLS:
            session = Session(a=Cell(*row))
            self.same(self.made(session, "tripled b a", "b"), RuledSequence(Cell(*row)).tripled().cell)
            self.same(self.made(session, "tripled a a", "a"), session.lookup("b"))

    def test_a_name_that_exists_is_replaced(self):
        session = full()
        for command in ("set a 1 : 0", "copy a b", "base a 3", "product a b a", "tripled a a"):
            self.same(session.execute(command), "ok")
            self.assertEqual(len(session), 26)

    def test_the_last_free_name(self):
        for command in MAKING:
            session = full()
            self.same(session.execute("drop ab"), "ok")
            self.same(session.execute(command), "ok")
            self.assertEqual(len(session), 26)
            self.assertIn("c", session.names)


class UndoTest(unittest.TestCase, Checks):
    def test_each_kind_of_change(self):
        for command in [*MAKING, "drop a", "set a 1 : 0", "copy a b", "base a 0", "product b a", "tripled a a", "copy a a"]:
            session = two()
            self.same(session.execute(command), "ok")
            self.same(session.execute("undo"), "ok")
            self.assertEqual(session, two())
            self.same(session.execute("undo"), "nothing to undo")

    def test_the_latest_that_remains(self):
        session = Session()
        texts = [session.text]
        for command in ("set a 3 : 0 1", "copy b a", "tripled a b", "drop b", "base b 2", "product c a b"):
            session.execute(command)
            texts.append(session.text)
        for text in reversed(texts):
            self.assertEqual(session.text, text)
            answer = session.execute("undo")
        self.same(answer, "nothing to undo")

    def test_between_other_changes(self):
        session = Session()
        for command in ("base a 1", "base b 1", "undo", "base c 1", "undo", "undo"):
            self.same(session.execute(command), "ok")
        self.same(session.execute("undo"), "nothing to undo")
        self.assertEqual(session, Session())

    def test_questions_and_failures_are_no_changes(self):
        session = two()
        for command in COMMANDS:
            if command not in MAKING and command != "drop a":
                session.execute(command)
        for command in ("x", "copy c x", "base c 9", "drop c", "gap a 0", None):
            session.execute(command)
        self.same(session.execute("undo"), "nothing to undo")


class QuestionTest(unittest.TestCase, Checks):
    def test_show_names_and_same(self):
        session = two()
        self.same(session.execute("show a"), "3 : 0 1")
        self.same(session.execute("show b"), "10 : 0 1 7 8")
        self.same(session.execute("names"), "a b")
        self.same(session.execute("same a b"), "no")
        self.same(session.execute("same a a"), "yes")
        session.execute("base c 1")
        session.execute("base d 2")
        self.same(session.execute("same a c"), "yes")
        # The same sequence does not make two cells equal.
        self.same(session.execute("same a d"), "no")
        self.same(Session().execute("names"), "-")
        self.same(Session(b=BASE, ab=BASE, a=BASE).execute("names"), "a ab b")

    def test_numbers(self):
        for modulus, members in FEW:
            session = Session(a=Cell(modulus, members))
            numbers = plain_ruled(modulus, members, 2000)
            for n in range(30):
                self.same(session.execute(f"member a {n}"), str(numbers[n]))
                self.same(session.execute(f"rank a {n}"), str(len([x for x in numbers if x < n])))
                self.same(session.execute(f"next a {n}"), str(min(x for x in numbers if x > n)))
                last = [x for x in numbers if x <= n]
                self.same(session.execute(f"last a {n}"), str(last[-1]) if last else "-")
                if n:
                    self.same(session.execute(f"gap a {n}"), str(numbers[n] - numbers[n - 1]))
                for count in (0, 1, 5):
                    wanted = " ".join(map(str, numbers[n:n + count])) or "-"
                    self.same(session.execute(f"list a {n} {count}"), wanted)

    def test_great_numbers(self):
        for modulus, members in FEW:
            sequence = RuledSequence(Cell(modulus, members))
            session = Session(a=Cell(modulus, members))
            rows = [("member", sequence.member), ("rank", sequence.rank), ("gap", sequence.gap)]
            rows += [("next", sequence.next_member), ("last", sequence.last_member)]
            for number in [*GREAT_NUMBERS, HUGE]:
                for word, method in rows:
                    self.same(session.execute(f"{word} a {number}"), str(method(number)))
                wanted = f"{sequence.member(number)} {sequence.member(number + 1)}"
                self.same(session.execute(f"list a {number} 2"), wanted)

    def test_cover(self):
        for modulus, members in FEW:
            session = Session(a=Cell(modulus, members))
            numbers = plain_ruled(modulus, members, 200)
            for x in range(200):
                answer = session.execute(f"cover a {x}")
                pairs = plain_pairs(numbers, x)
                if x in numbers:
                    self.same(answer, "member")
                elif not pairs:
                    self.same(answer, "open")
                else:
                    y, z = map(int, answer.split(" "))
                    self.assertIn((y, z), pairs)
                    self.assertEqual((y, z), RuledSequence(Cell(modulus, members)).cover(x))
        self.same(Session(a=TEN).execute("cover a 23"), "11 17")
        self.same(Session(a=TEN).execute("cover a 3"), "open")
        self.same(Session(a=TEN).execute("cover a 7"), "member")
        self.fails(NotCovered, {"given": 3}, RuledSequence(TEN).cover, 3)

    def test_serve(self):
        for modulus, members in SMALL_CELLS:
            session = Session(a=Cell(modulus, members))
            for r in range(modulus):
                if r in members:
                    self.same(session.execute(f"serve a {r}"), "member")
                else:
                    carry, y, z = plain_servers(modulus, members, r)[0]
                    self.same(session.execute(f"serve a {r}"), f"{y} {z} {carry}")
            for r in (modulus, modulus + 1, HUGE):
                self.same(session.execute(f"serve a {r}"), "invalid number")

    def test_questions_leave_the_catalogue(self):
        for command in COMMANDS:
            if command not in MAKING and command != "drop a":
                session = two()
                session.execute(command)
                self.assertEqual(session, two())

    def test_the_longest_list(self):
        answer = Session(a=BASE).execute("list a 7 1000")
        self.assertEqual(answer.split(" "), [str(RuledSequence(BASE).member(n)) for n in range(7, 1007)])


class SyntaxTest(unittest.TestCase, Checks):
    def check(self, session, command):
        """The command is no command, and changes nothing."""
        before = session.text
        self.same(session.execute(command), "syntax error")
        self.assertEqual(session.text, before)
        self.same(session.execute("undo"), "nothing to undo")

    def test_the_rows_are_right(self):
        for command in COMMANDS:
            self.assertNotIn(two().execute(command), ("syntax error", "unknown name", "invalid number", "too large"))

    def test_no_strings(self):
        for value in not_strings():
            self.check(two(), value)

    def test_words(self):
        for command in ["", " ", "x", "Names", "NAMES", "set", "undone", "\n", ":", "-", "ok", "load", "attempt names"]:
            self.check(two(), command)

    def test_empty_words_and_line_breaks(self):
        for command in [*COMMANDS, "undo"]:
            rows = [" " + command, command + " ", command + "\n", "\n" + command, command + "\nnames"]
            rows += [command.replace(" ", "  ", 1), command.replace(" ", "\n", 1), command.replace(" ", "\t", 1)]
            for text in rows:
                if text != command:
                    self.check(two(), text)

    def test_missing_and_additional_words(self):
        for command in [*COMMANDS, "undo"]:
            words = command.split(" ")
            if words[0] != "product":
                for more in ("a", "5", "c", "-"):
                    self.check(two(), command + " " + more)
            else:
                for more in ("5", "-", "A"):
                    self.check(two(), command + " " + more)
            if len(words) > 1 and command != "product c a b a":
                if words[0] == "set":
                    self.check(two(), "set c 3 : 0 ")
                else:
                    self.check(two(), " ".join(words[:-1]))

    def test_wrong_names(self):
        for command in COMMANDS:
            words = command.split(" ")
            for at in range(1, len(words)):
                if words[0] == "set" and at > 1:
                    continue
                if words[at].isalpha():
                    for wrong in ("A", "abcdefghi", "a1", "5", "-", "_", "a-b"):
                        self.check(two(), " ".join([*words[:at], wrong, *words[at + 1:]]))

    def test_wrong_integers(self):
        for command in COMMANDS:
            words = command.split(" ")
            for at in range(1, len(words)):
                if words[at].isdigit() and words[0] != "set":
                    for wrong in NOT_INTEGERS:
                        self.check(two(), " ".join([*words[:at], wrong, *words[at + 1:]]))

    def test_wrong_cells(self):
        for text, place in cell_texts():
            if place is None:
                self.same(two().execute("set c " + text), "ok")
            else:
                self.check(two(), "set c " + text)

    def test_great_integers(self):
        self.check(two(), "member a 1" + "0" * 600)
        self.assertEqual(two().execute("rank a 1" + "0" * 599), str(RuledSequence(BASE).rank(10 ** 599)))


class FailureTest(unittest.TestCase, Checks):
    def check(self, session, command, answer):
        """The command fails with this answer and changes nothing."""
        for made in (Session, Recorder):
            other = made.restore(session.text)
            self.same(other.execute(command), answer)
            self.assertEqual(other.text, session.text)
            self.same(other.execute("undo"), "nothing to undo")

    def test_syntax_comes_first(self):
        for command in ("copy A x", "member x -1", "list x 1 -", "serve x y", "product c x -", "set c 3 : 0", "base c 01"):
            self.check(two(), command, "syntax error")
            self.check(full(), command, "syntax error")

    def test_unknown_names(self):
        rows = ["copy c x", "drop x", "product c a x", "product c x a", "tripled c x", "show x", "same a x", "same x a"]
        rows += [f"{word} x 0" for word in ("member", "rank", "gap", "next", "last", "cover", "serve")]
        rows += ["list x 0 1001", "list x 0 0"]
        for command in rows:
            self.check(two(), command, "unknown name")
            self.check(full(), command, "unknown name")
        # The new name does not exist yet.
        self.check(two(), "product c a c", "unknown name")
        self.check(two(), "copy c c", "unknown name")
        self.check(Session(a=Cell.base(digits=8)), "product a a a x", "unknown name")

    def test_too_many_names(self):
        for command in [*MAKING, "base c 9", "base c " + "9" * 600]:
            self.check(full(), command, "too many names")
        great = Session(**{name: Cell.base(digits=8) for name in names_of(26)})
        for command in ("product c aa aa", "tripled c aa"):
            self.check(great, command, "too many names")

    def test_invalid_numbers(self):
        rows = ["base c 9", "base a 9", "base c " + "9" * 600, "gap a 0", "serve a 3", "serve b 10", "serve a " + "9" * 600]
        rows += ["list a 0 1001", "list a 5 " + "9" * 600, "list a 0 2000"]
        for command in rows:
            self.check(two(), command, "invalid number")

    def test_too_large(self):
        great = Session(a=Cell.base(digits=8), b=TEN, c=Cell.base(digits=7), d=Cell(10, (1, 2, 8, 9)))
        rows = ["product e a b", "product a a a", "tripled e a", "tripled a a", "product e c b d"]
        for command in rows:
            self.check(great, command, "too large")
        self.same(great.execute("tripled e c"), "ok")

    def test_nothing_to_undo(self):
        for session in (Session(), two(), full()):
            self.check(session, "undo", "nothing to undo")


if __name__ == "__main__":
    unittest.main()
