"""The names, parameters and places that the interface lists."""

import importlib
import inspect
import unittest

FUNCTIONS = {
    "triplefree.base": [
        "base_member(number)",
        "in_base(x)",
        "base_rank(x)",
        "next_base(x)",
        "last_base(x)",
        "base_gap(number)",
        "base_sum(number)",
        "mirror(x, power)",
        "plain_pair(m)",
        "sum_count(m)",
        "sum_pairs(m)",
        "difference_pair(d)",
        "join(*members)",
        "meet(*members)",
        "base_members(start=0)",
    ],
    "triplefree.greedy": [
        "first_difference(one, other)",
        "common_beginning(*sequences)",
        "smallest_triple(*numbers)",
    ],
    "triplefree.products": [
        "product(*cells)",
        "power(cell, exponent)",
        "left_quotient(cell, factor)",
        "right_quotient(cell, factor)",
        "factorizations(cell)",
        "is_irreducible(cell)",
        "chain(cell)",
    ],
    "triplefree.search": [
        "ruling(start, *, most=81)",
        "moduli(start, *, most=81)",
        "cells_of(modulus)",
        "least_start(cell)",
    ],
    "triplefree.comparison": [
        "first_difference(one, other)",
        "agreement(*sequences)",
        "translation(one, other)",
        "reduced(cell)",
        "lowered(cell)",
    ],
    "triplefree.formatting": [
        "format_numbers(*numbers)",
        "format_catalogue(**cells)",
    ],
    "triplefree.parsing": [
        "parse_numbers(text)",
        "numbers_in(text)",
        "parse_cell(text)",
        "parse_catalogue(text)",
    ],
}
GENERATORS = ["sum_pairs", "base_members", "coverings", "walk", "uncovered", "factorizations", "moduli", "cells_of"]
GENERATORS += ["numbers_in", "replay"]
CLASSES = {
    "triplefree.base": {
        "Ternary(number)": [
            "static is_digit(value)",
            "class from_digits(*digits)",
            "property number",
            "property digits",
            "property ones",
            "property is_plain",
            "method __eq__(self, other)",
            "method __str__(self)",
        ],
    },
    "triplefree.greedy": {
        "GreedySequence(start)": [
            "class of_numbers(*numbers)",
            "static is_start(value)",
            "property start",
            "property last",
            "property horizon",
            "property beginning",
            "method member(self, number)",
            "method contains(self, x)",
            "method rank(self, x)",
            "method next_member(self, x)",
            "method coverings(self, x)",
            "method cover(self, x)",
            "method check_cover(self, x, pair)",
            "method walk(self, number=0)",
            "method continued(self, count)",
            "method shifted(self, shift)",
            "method __eq__(self, other)",
            "method __str__(self)",
        ],
        "ClosestSequence(start)": [
            "method coverings(self, x)",
            "method cover(self, x)",
        ],
    },
    "triplefree.cells": {
        "Cell(modulus, members)": [
            "property modulus",
            "property members",
            "property size",
            "property greatest",
            "method has(self, remainder)",
            "method serving_pair(self, remainder)",
            "method carry(self, remainder)",
            "class base(*, digits=1)",
            "static violation(modulus, members)",
            "method __eq__(self, other)",
            "method __str__(self)",
        ],
    },
    "triplefree.ruled": {
        "RuledSequence(cell)": [
            "property cell",
            "method member(self, number)",
            "method rank(self, x)",
            "method contains(self, x)",
            "method next_member(self, x)",
            "method last_member(self, x)",
            "method cover(self, x)",
            "method check_cover(self, x, pair)",
            "method gap(self, number)",
            "method walk(self, start=0)",
            "method uncovered(self)",
            "method tripled(self)",
            "method __len__(self)",
            "method __eq__(self, other)",
        ],
        "ShiftedSequence(cell, *, shift=0)": [
            "property shift",
            "method member(self, number)",
            "method rank(self, x)",
            "method contains(self, x)",
            "method next_member(self, x)",
            "method last_member(self, x)",
            "method cover(self, x)",
            "method check_cover(self, x, pair)",
            "method gap(self, number)",
            "method walk(self, start=0)",
            "method uncovered(self)",
            "method tripled(self)",
            "method __len__(self)",
            "method __eq__(self, other)",
        ],
    },
    "triplefree.counts": {
        "Counts(sequence)": [
            "property sequence",
            "class of_cell(modulus, members)",
            "static base_sum(number)",
            "method count_between(self, low, high)",
            "method count_in(self, *intervals)",
            "method sum_of_first(self, number)",
            "method sum_up_to(self, x)",
            "method sums_by_name(self, **bounds)",
            "method covering_count(self, x)",
            "method coverings(self, x)",
            "method coverings_up_to(self, x)",
            "method gap_count(self, length, number)",
            "method first_gap(self, length)",
            "method longest_gap(self, number)",
            "method __eq__(self, other)",
        ],
        "BaseCounts()": [
            "method readings(self, m)",
        ],
    },
    "triplefree.products": {
        "Stack(*cells)": [
            "property cells",
            "property modulus",
            "property size",
            "property greatest",
            "method member(self, number)",
            "method rank(self, x)",
            "method contains(self, x)",
            "method walk(self, start=0)",
            "method coordinates(self, x)",
            "method composed_pair(self, x)",
            "method number_of(self, *coordinates)",
            "method push(self, *cells)",
            "method drop(self)",
            "class repeated(cell, count)",
            "static fits(value)",
            "method __len__(self)",
            "method __eq__(self, other)",
        ],
    },
    "triplefree.search": {
        "Verdict(start, modulus)": [
            "class of(start, modulus)",
            "static check(start, modulus, certificate)",
            "property start",
            "property modulus",
            "method is_ruling(self)",
            "method certificate(self)",
        ],
        "Ruling(start, modulus, cell)": [
            "property cell",
            "method is_ruling(self)",
            "method certificate(self)",
            "method as_sequence(self)",
        ],
        "Clash(start, modulus, triple)": [
            "method certificate(self)",
        ],
        "Unserved(start, modulus, remainder)": [
            "method certificate(self)",
        ],
    },
    "triplefree.growing": {
        "Growing(start)": [
            "property position",
            "property reserved",
            "property forbidden",
            "property change_count",
            "method grow(self, count=1)",
            "method grow_to(self, number)",
            "method reserve(self, *numbers)",
            "method forbid(self, *numbers)",
            "method release(self, *numbers)",
            "method kind(self, number)",
            "method certificate(self, number)",
            "method walk(self)",
            "method is_member(self, number)",
            "method tail(self, modulus)",
            "class reaching(numbers)",
            "static first_triple(numbers)",
            "method undo(self)",
            "method copy(self)",
            "method __eq__(self, other)",
            "method __len__(self)",
            "method __repr__(self)",
        ],
        "LoggedGrowing(start)": [
            "property refusals",
            "method __repr__(self)",
        ],
    },
    "triplefree.session": {
        "Session(**cells)": [
            "method execute(self, command)",
            "method attempt(self, *commands)",
            "method replay(self, *commands)",
            "method ask(self, question, *numbers, cell, shift=0)",
            "property names",
            "property text",
            "method lookup(self, name)",
            "method load(self, text)",
            "static is_name(value)",
            "class restore(text)",
            "method __len__(self)",
            "method __eq__(self, other)",
        ],
        "Recorder(**cells)": [
            "property transcript",
        ],
    },
}


def kind_of(value):
    """The word for the kind of what stands in a class."""
    for word, kind in (("static", staticmethod), ("class", classmethod), ("property", property)):
        if isinstance(value, kind):
            return word
    return "method"


def described(made, name):
    """The description of what stands under a name in the body of a class."""
    value = vars(made)[name]
    word = kind_of(value)
    if word == "property":
        return f"property {name}"
    return f"{word} {name}{inspect.signature(getattr(made, name))}"


class InterfaceTest(unittest.TestCase):
    def test_functions(self):
        for place, rows in FUNCTIONS.items():
            module = importlib.import_module(place)
            for row in rows:
                made = getattr(module, row.split("(")[0])
                self.assertEqual(made.__module__, place)
                self.assertEqual(f"{made.__name__}{inspect.signature(made)}", row)
                self.assertEqual(inspect.isgeneratorfunction(made), made.__name__ in GENERATORS)

    def test_classes(self):
        for place, table in CLASSES.items():
            module = importlib.import_module(place)
            for row, members in table.items():
                made = getattr(module, row.split("(")[0])
                self.assertEqual(made.__module__, place)
                self.assertEqual(f"{made.__name__}{inspect.signature(made)}", row)
                for member in members:
                    name = member.split("(")[0].split(" ")[1]
                    self.assertEqual(described(made, name), member)
                    self.assertEqual(inspect.isgeneratorfunction(vars(made)[name]), name in GENERATORS)

    def test_base_classes(self):
        rows = [
            ("triplefree.greedy", "ClosestSequence", "GreedySequence"),
            ("triplefree.ruled", "ShiftedSequence", "RuledSequence"),
            ("triplefree.counts", "BaseCounts", "Counts"),
            ("triplefree.search", "Ruling", "Verdict"),
            ("triplefree.search", "Clash", "Verdict"),
            ("triplefree.search", "Unserved", "Verdict"),
            ("triplefree.growing", "LoggedGrowing", "Growing"),
            ("triplefree.session", "Recorder", "Session"),
        ]
        for place, name, base in rows:
            module = importlib.import_module(place)
            self.assertEqual(getattr(module, name).__bases__, (getattr(module, base),))


if __name__ == "__main__":
    unittest.main()
