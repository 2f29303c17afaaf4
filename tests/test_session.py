"""The interface of session.py: ordinary values, edges and wrong values."""

import itertools
import unittest

from tests.support import GREAT_NUMBERS, HUGE, SMALL_CELLS, Checks, Thing, not_integers, not_numbers
from tests.test_products import not_cells
from tests.test_texts import NAMES, NOT_NAMES, names_of, not_strings
from triplefree.cells import Cell
from triplefree.errors import InvalidCell, InvalidCertificate, InvalidNumber, InvalidText, IsMember, NotCovered
from triplefree.ruled import RuledSequence, ShiftedSequence
from triplefree.session import Recorder, Session

BASE = Cell.base()
TEN = Cell(10, (0, 1, 7, 8))
UNIT = Cell(1, (0,))
KINDS = (Session, Recorder)
QUESTIONS = ("member", "rank", "next", "last", "cover")


def undone(session):
    """The texts of the catalogue while all changes are taken back; the session is as before the last of them."""
    texts = [session.text]
    while session.execute("undo") == "ok":
        texts.append(session.text)
    return texts


def state(session):
    """The catalogue of a session."""
    return (session.names, session.text, len(session))


class ConstructorTest(unittest.TestCase, Checks):
    def test_class_values(self):
        for made in KINDS:
            self.assertEqual((made.MAX_NAMES, made.MAX_LISTED), (26, 1000))

    def test_sessions(self):
        for made in KINDS:
            self.assertEqual(state(made()), ((), "-", 0))
            self.assertEqual(state(made(b=BASE, a=TEN)), (("a", "b"), "a 10 : 0 1 7 8\nb 3 : 0 1", 2))
            self.assertEqual(len(made(**{name: BASE for name in names_of(26)})), 26)
            for name in NAMES:
                if name != "self":
                    self.same(made(**{name: BASE}).names, (name,))

    def test_wrong_names(self):
        for made in KINDS:
            for name in NOT_NAMES:
                self.fails(InvalidCell, {"part": "name"}, made, **{name: BASE})
                self.fails(InvalidCell, {"part": "name"}, made, a=None, **{name: None})
            self.fails(InvalidCell, {"part": "names"}, made, **{name: None for name in names_of(27)})
            self.fails(InvalidCell, {"part": "name"}, made, **{name: None for name in [*names_of(27), "A"]})

    def test_wrong_cells(self):
        for made in KINDS:
            for value in not_cells():
                self.fails(InvalidCell, {"part": "a"}, made, b=BASE, a=value)
                self.fails(InvalidCell, {"part": "ab"}, made, b=value, ab=value, a=BASE)

    def test_a_dict_is_not_kept(self):
        cells = {"a": BASE}
        session = Session(**cells)
        cells["b"] = TEN
        session.execute("copy c a")
        self.assertEqual(session.names, ("a", "c"))
        self.assertEqual(cells, {"a": BASE, "b": TEN})

    def test_equality(self):
        self.assertEqual(Session(), Session())
        self.assertEqual(Session(a=BASE, b=TEN), Session(b=Cell(10, [0, 1, 7, 8]), a=Cell.base()))
        self.assertEqual(Session(a=BASE), Recorder(a=BASE))
        self.assertEqual(Recorder(a=BASE), Session(a=BASE))
        # Neither the changes nor the transcript matter.
        session = Recorder()
        session.execute("set a 3 : 0 1")
        session.execute("no command")
        self.assertEqual(session, Session(a=BASE))
        for other in (Session(), Session(b=BASE), Session(a=TEN), Session(a=BASE, b=BASE), Recorder(b=BASE)):
            self.assertNotEqual(session, other)
        for value in (None, {"a": BASE}, "a 3 : 0 1", 1, (), BASE, ["a"], object()):
            self.assertFalse(Session(a=BASE) == value)


class LookupTest(unittest.TestCase, Checks):
    def test_lookup(self):
        session = Session(a=BASE, b=TEN)
        self.assertIs(session.lookup("a"), BASE)
        self.assertIs(session.lookup(name="b"), TEN)

    def test_unknown_names(self):
        for session in (Session(), Session(a=BASE)):
            for value in ["b", "aa", "A", "", *NOT_NAMES, *not_integers(), 0, Thing(), ["a"], {"a": 1}]:
                self.fails(InvalidCell, {"part": "name"}, session.lookup, value)


class LoadTest(unittest.TestCase, Checks):
    def test_load(self):
        for made in KINDS:
            session = made(a=BASE)
            self.assertIsNone(session.load("b 3 : 0 1\nself 10 : 0 1 7 8"))
            self.same(session.names, ("b", "self"))
            self.assertIsNone(session.load(text="-"))
            self.same(session.names, ())
            self.assertEqual(undone(session), ["-", "b 3 : 0 1\nself 10 : 0 1 7 8", "a 3 : 0 1"])

    def test_load_is_one_change(self):
        session = Session(a=BASE, b=TEN)
        session.load("a 3 : 0 1\nb 10 : 0 1 7 8")
        session.execute("drop a")
        self.same(session.attempt("undo", "undo"), ("ok", "ok"))
        self.assertEqual(session.execute("undo"), "nothing to undo")
        self.assertEqual(session, Session(a=BASE, b=TEN))

    def test_wrong_texts(self):
        rows = [("", 1, 1), ("- a", 1, 2), ("a 3 : 0", 1, 2), ("a 3 : 0 1\na 3 : 0 1", 2, 1), ("b 3 : 0 1\n-", 2, 1)]
        session = Session(a=BASE)
        session.execute("copy b a")
        before = state(session)
        for text, row, word in rows:
            self.fails(InvalidText, {"row": row, "word": word}, session.load, text)
            self.fails(InvalidText, {"row": row, "word": word}, Session.restore, text)
            self.assertEqual(state(session), before)
        for value in not_strings():
            self.fails(InvalidText, {"row": 0, "word": 0}, session.load, value)
            self.fails(InvalidText, {"row": 0, "word": 0}, Session.restore, value)
        self.assertEqual(state(session), before)
        self.assertEqual(undone(session), ["a 3 : 0 1\nb 3 : 0 1", "a 3 : 0 1"])

    def test_restore(self):
        for made in KINDS:
            for cells in ({}, {"a": BASE, "b": TEN}, {name: TEN for name in names_of(26)}):
                session = made.restore(made(**cells).text)
                self.assertIs(session.__class__, made)
                self.assertEqual(session, made(**cells))
                self.assertEqual(session.execute("undo"), "nothing to undo")
            session = made.restore(text="self 3 : 0 1")
            self.same(session.lookup("self"), BASE)
            self.assertEqual(session.execute("member self 5"), "10")

    def test_restore_of_a_subclass(self):
        class Other(Session):
            pass

        self.assertIs(Other.restore("-").__class__, Other)
        self.same(Recorder.restore("a 3 : 0 1").transcript, [])


class AskTest(unittest.TestCase, Checks):
    def test_example_of_the_interface(self):
        self.same(Session(a=BASE).ask("cover", 7, 9, cell="a"), ((1, 4), None))

    def test_answers(self):
        numbers = [*range(40), *GREAT_NUMBERS, HUGE]
        for row in SMALL_CELLS:
            cell = Cell(*row)
            session = Session(b=cell)
            for shift in (0, 1, 12, 10 ** 59):
                sequence = ShiftedSequence(cell, shift=shift)
                methods = (sequence.member, sequence.rank, sequence.next_member, sequence.last_member)
                for question, method in zip(QUESTIONS, methods):
                    wanted = tuple(method(number) for number in numbers)
                    self.same(session.ask(question, *numbers, cell="b", shift=shift), wanted)
                pairs = []
                for number in numbers:
                    try:
                        pairs.append(sequence.cover(number))
                    except (IsMember, NotCovered):
                        pairs.append(None)
                self.same(session.ask("cover", *numbers, cell="b", shift=shift), tuple(pairs))

    def test_without_a_shift(self):
        session = Session(a=TEN)
        sequence = RuledSequence(TEN)
        self.same(session.ask("member", 0, 5, 100, cell="a"), tuple(map(sequence.member, (0, 5, 100))))
        self.same(session.ask("last", 0, 6, cell="a", shift=3), (None, 4))

    def test_no_numbers(self):
        for question in QUESTIONS:
            self.same(Session(a=BASE).ask(question, cell="a"), ())
            self.same(Session(a=BASE).ask(question=question, cell="a", shift=5), ())

    def test_unknown_names(self):
        session = Session(a=BASE)
        for value in ["b", "A", "", *not_integers(), 0, ["a"], {"a": 1}]:
            self.fails(InvalidCell, {"part": "name"}, session.ask, "member", 5, cell=value)
            # The name is examined first.
            self.fails(InvalidCell, {"part": "name"}, session.ask, "none", -1, cell=value, shift=-1)

    def test_wrong_shifts(self):
        session = Session(a=BASE)
        for value in not_numbers():
            self.fails(InvalidNumber, {"given": value}, session.ask, "member", 5, cell="a", shift=value)
            self.fails(InvalidNumber, {"given": value}, session.ask, "none", "x", cell="a", shift=value)

    def test_wrong_questions(self):
        session = Session(a=BASE)
        values = ["gap", "", "Member", "member ", "contains", "list", "serve", ["member"], ("member",), {"member": 1}, 0]
        for value in [*values, *not_integers(), *not_numbers()]:
            self.fails(InvalidCertificate, {"part": "question"}, session.ask, value, 5, cell="a")
            self.fails(InvalidCertificate, {"part": "question"}, session.ask, value, -1, cell="a", shift=3)

    def test_wrong_numbers(self):
        session = Session(a=BASE)
        for question in QUESTIONS:
            for value in not_numbers():
                self.fails(InvalidNumber, {"given": value}, session.ask, question, value, cell="a")
                self.fails(InvalidNumber, {"given": value}, session.ask, question, 7, 9, value, -5, None, cell="a")

    def test_it_changes_nothing(self):
        session = Recorder(a=BASE)
        session.ask("member", 5, cell="a")
        self.assertEqual(session.transcript, [])
        self.assertEqual(undone(session), ["a 3 : 0 1"])


class AttemptTest(unittest.TestCase, Checks):
    def test_answers(self):
        for made in KINDS:
            session = made(a=BASE)
            self.same(session.attempt(), ())
            self.same(session.attempt("names"), ("a",))
            found = session.attempt("copy b a", "product c a b", "names", "undo", "names")
            self.same(found, ("ok", "ok", "a b c", "ok", "a b"))
            self.assertEqual(session.names, ("a", "b"))
            self.assertEqual(undone(session), ["a 3 : 0 1\nb 3 : 0 1", "a 3 : 0 1"])

    def test_each_command_is_a_change_of_its_own(self):
        session = Session()
        session.attempt("set a 3 : 0 1", "copy b a", "drop a")
        self.assertEqual(undone(session), ["b 3 : 0 1", "a 3 : 0 1\nb 3 : 0 1", "a 3 : 0 1", "-"])

    def test_failures(self):
        rows = [
            (("copy b a", "x", "copy c a"), "syntax error"),
            (("copy b a", None), "syntax error"),
            (("drop a", "show a"), "unknown name"),
            (("copy b a", "base c 9"), "invalid number"),
            (("base b 8", "tripled b b"), "too large"),
            (("undo", "undo", "undo"), "nothing to undo"),
            (("undo", "names", "undo", "names", "undo"), "nothing to undo"),
            (("undo", "copy q a", "gap a 0"), "invalid number"),
            (("x",), "syntax error"),
        ]
        for made in KINDS:
            for commands, wanted in rows:
                session = made(a=BASE)
                session.execute("copy k a")
                session.execute("drop k")
                self.same(session.attempt(*commands), wanted)
                self.assertEqual(session, Session(a=BASE))
                # What could be taken back before can be taken back now, and nothing else.
                self.assertEqual(undone(session), ["a 3 : 0 1", "a 3 : 0 1\nk 3 : 0 1", "a 3 : 0 1"])

    def test_a_failure_shows_in_no_other_way(self):
        # The answer of names reads like a failure, but is none.
        session = Session(a=BASE)
        session.load("invalid 3 : 0 1\nnumber 3 : 0 1")
        self.assertEqual(session.execute("names"), "invalid number")
        self.same(session.attempt("names", "drop number"), ("invalid number", "ok"))
        self.assertEqual(list(session.replay("names", "undo", "names", "x", "names")), [
            "invalid", "ok", "invalid number", "syntax error",
        ])
        session.load("syntax 3 : 0 1")
        session.load("nothing 3 : 0 1\nto 3 : 0 1\nundo 3 : 0 1")
        self.same(session.attempt("names", "undo"), ("nothing to undo", "ok"))

    def test_after_a_failure_nothing_is_executed(self):
        session = Recorder(a=BASE)
        session.attempt("x", "names")
        self.assertEqual(session.transcript, [("x", "syntax error")])


class ReplayTest(unittest.TestCase, Checks):
    def test_answers(self):
        for made in KINDS:
            session = made(a=BASE)
            self.assertEqual(list(session.replay()), [])
            self.assertEqual(list(session.replay("copy b a", "names", "undo", "names")), ["ok", "a b", "ok", "a"])

    def test_it_stops_after_the_first_failure(self):
        session = Session(a=BASE)
        self.assertEqual(list(session.replay("copy b a", "show c", "copy d a")), ["ok", "unknown name"])
        # The commands before it are not taken back.
        self.assertEqual(session.names, ("a", "b"))
        self.assertEqual(list(session.replay(None, "names")), ["syntax error"])

    def test_a_command_is_executed_when_its_answer_is_asked_for(self):
        session = Session(a=BASE)
        answers = session.replay("copy b a", "names", "drop a", "names")
        self.assertEqual(session.names, ("a",))
        self.assertEqual(next(answers), "ok")
        self.assertEqual(session.names, ("a", "b"))
        session.execute("copy c a")
        self.assertEqual(next(answers), "a b c")
        session.execute("drop a")
        self.assertEqual(next(answers), "unknown name")
        self.assertEqual(list(answers), [])
        self.assertEqual(session.names, ("b", "c"))


class RecorderTest(unittest.TestCase, Checks):
    def test_transcript(self):
        session = Recorder(a=BASE)
        self.same(session.transcript, [])
        commands = ["copy b a", "names", "x", "", "undo", "gap a 0", None, 5, ["names"], b"names", True]
        answers = [session.execute(command) for command in commands]
        shown = [command if isinstance(command, str) else None for command in commands]
        self.assertEqual(session.transcript, list(zip(shown, answers)))
        for row in session.transcript:
            self.assertIs(row.__class__, tuple)

    def test_attempt_and_replay(self):
        session = Recorder(a=BASE)
        session.attempt("copy b a", "names")
        session.attempt("copy c a", "show x", "names")
        session.attempt("copy d a", None)
        list(session.replay("names", "drop x", "names"))
        self.assertEqual(session.transcript, [
            ("copy b a", "ok"),
            ("names", "a b"),
            ("copy c a", "ok"),
            ("show x", "unknown name"),
            ("copy d a", "ok"),
            (None, "syntax error"),
            ("names", "a b"),
            ("drop x", "unknown name"),
        ])

    def test_only_commands_are_listed(self):
        session = Recorder(a=BASE)
        session.load("a 3 : 0 1")
        session.lookup("a")
        session.ask("rank", 5, cell="a")
        self.fails(InvalidText, {"row": 1, "word": 1}, session.load, "")
        answers = session.replay("names")
        self.assertEqual(session.transcript, [])
        next(answers)
        self.assertEqual(session.transcript, [("names", "a")])

    def test_the_list_belongs_to_the_caller(self):
        session = Recorder(a=BASE)
        session.execute("names")
        session.transcript.append(1)
        session.transcript.clear()
        self.assertEqual(session.transcript, [("names", "a")])
        found = session.transcript
        session.execute("names")
        self.assertEqual(len(found), 1)

    def test_a_session_has_none(self):
        self.assertFalse(hasattr(Session(), "transcript"))

    def test_by_name(self):
        session = Recorder(a=UNIT)
        self.assertEqual(session.execute(command="show a"), "1 : 0")
        for size in (1, 2):
            for words in itertools.product(("names", "show a"), repeat=size):
                self.assertEqual(len(session.attempt(*words)), size)


if __name__ == "__main__":
    unittest.main()
