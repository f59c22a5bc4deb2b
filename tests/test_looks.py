"""[69]: looks, made and looked at."""

import itertools
import unittest

from foldsall.boxes import pair_holds, pair_paper
from foldsall.code import fewest_cells, fewest_hold
from foldsall.court import court_holds, court_paper
from foldsall.errors import (FoldError, InvalidBook, InvalidCut, InvalidIndex, InvalidProgram, InvalidSize, Refused)
from foldsall.folding import kept_holds, kept_paper
from foldsall.joins import finds_hold, finds_paper, joins_hold, joins_paper
from foldsall.looks import look_holds, make_look, wrong_looks
from foldsall.severals import right_holds, right_paper, several_holds, several_paper
from foldsall.splits import splits_hold, splits_paper
from foldsall.striking import rest_holds, rest_paper
from tests.helpers import (AND, ANYTHING, LEAST, MOST, NOT, OR, TURN, XOR, Fails, changed, has_lists, in_lists, no_sequences)
from tests.test_code import CUT
from tests.test_missed import NEVER

BOOK = (2, (AND, NOT))
LESS = (3, (LEAST,))
BOTH = (3, (LEAST, MOST))
LOOPED = (((0, 1),), (("loop", None, (0,), (("of", 1, (1,)), ("fork", None, (), (), ((2, 1),))), (3,)),), (1,))
PAIRS = {"court": (court_paper, court_holds), "rest": (rest_paper, rest_holds), "joins": (joins_paper, joins_hold),
         "finds": (finds_paper, finds_hold), "pair": (pair_paper, pair_holds), "several": (several_paper, several_holds),
         "right": (right_paper, right_holds), "kept": (kept_paper, kept_holds), "splits": (splits_paper, splits_hold),
         "cells": (fewest_cells, fewest_hold)}
QUESTIONS = {
    "court": ((BOOK,), (LESS,), (BOTH,), ((2, ()),)), "rest": ((BOOK,), (LESS,), ((2, (AND,)),)),
    "joins": ((BOOK,), ((2, (NOT,)),), ((3, (TURN,)),)), "finds": ((BOOK,), ((2, (NOT,)),), ((3, ((1, (0, 0, 1)),)),)),
    "pair": ((BOOK, 0, 1), (LESS, 0, 2), ((2, (OR,)), 1, 0)), "several": ((LESS, 1), (LESS, 2), (BOTH, 1)),
    "right": ((LESS, 1), (BOTH, 2), ((2, (XOR,)), 1)),
    "kept": ((BOOK, NEVER, None), (BOOK, LOOPED, 1), (BOOK, LOOPED, 7), ((2, ()), ((), (), ()), None)),
    "splits": ((BOOK, NEVER), (BOOK, (((0, 1),), (), (0,))), ((2, ()), ((), (), ()))), "cells": ((BOOK, CUT), ((2, ()), ((), (), ()))),
}


def is_right(value):
    """By the words of the document, of any value."""
    if not isinstance(value, tuple) or len(value) != 3 or has_lists(value):
        return False
    word, question, paper = value
    if not isinstance(word, str) or word not in PAIRS or not isinstance(question, tuple):
        return False
    if len(question) != len(QUESTIONS[word][0]):
        return False
    try:
        return PAIRS[word][1](*question, paper)
    except FoldError:
        return False


class LooksTest(Fails, unittest.TestCase):
    def looks(self):
        for word, questions in QUESTIONS.items():
            for question in questions:
                yield make_look(word, question)

    def test_made(self):
        for word, questions in QUESTIONS.items():
            for question in questions:
                look = make_look(word, question)
                self.assertEqual(look, (word, question, PAIRS[word][0](*question)))
                self.assertFalse(has_lists(look))
                self.assertIs(look_holds(look), True)
                # Lists in the question are turned to tuples at any depth ahead of all.
                lists = in_lists(question)
                self.assertEqual(make_look(word, lists), look)
                self.assertEqual(lists, in_lists(question))
                self.assertEqual(make_look(question=[question[0]] + list(lists[1:]), word=word), look)
                self.assertEqual(wrong_looks([look]), ())
                for wrong in ((word, lists, look[2]), (word, question, in_lists(look[2])), list(look), (word, (lists[0],) + question[1:], look[2])):
                    if has_lists(wrong):
                        self.assertIs(look_holds(wrong), False)

    def test_papers_that_do_not_hold(self):
        looks = list(self.looks())
        for one, other in itertools.product(looks, repeat=2):
            for value in ((one[0], one[1], other[2]), (one[0], other[1], one[2]), (other[0], one[1], one[2])):
                self.assertIs(look_holds(value), is_right(value))

    def test_changed_looks(self):
        for look in (make_look("court", (BOOK,)), make_look("kept", (BOOK, NEVER, 1)), make_look("splits", (BOOK, NEVER)),
                     make_look("pair", ((2, (OR,)), 1, 0)), make_look("cells", ((2, (NOT,)), (((0, 1),), ((0, (("in", 0),)),), (("line", 0),))))):
            for value in itertools.chain(changed(look), ANYTHING):
                told = look_holds(value)
                self.assertIs(type(told), bool)
                self.assertEqual(told, is_right(value), value)

    def test_any_values(self):
        for word in list(PAIRS) + ["Court", "cuts", "", None, 0, ("court",), ["court"], True]:
            for question in list(ANYTHING) + [(), (BOOK,), (BOOK, NEVER), (BOOK, 0, 1), ((2, [AND]),), [BOOK], (None,), (None, None),
                                              (None,) * 3, (BOOK, None, None), (BOOK, NEVER, 0)]:
                for paper in (None, ("arrows", ((0, 1),)), court_paper(BOOK), (), [], ("exact", ())):
                    value = (word, question, paper)
                    self.assertIs(look_holds(value), is_right(value))
        for value in ANYTHING + (("court", (BOOK,)), ("court", (BOOK,), court_paper(BOOK), 0)):
            self.assertIs(look_holds(value), False)

    def test_wrong_looks(self):
        good, other = make_look("court", (BOOK,)), make_look("joins", (BOOK,))
        values = [good, None, other, ("court", (BOOK,), other[2]), good, [good], ("joins", [BOOK], other[2])]
        self.assertEqual(wrong_looks(values), (1, 3, 5, 6))
        self.assertEqual(wrong_looks(tuple(values)), (1, 3, 5, 6))
        self.assertEqual(wrong_looks(()), ())
        self.assertEqual(wrong_looks(values=good), (0, 1, 2))
        self.assertIs(look_holds(value=good), True)
        for value in no_sequences():
            self.fails_at(Refused, "looks", wrong_looks, value)

    def test_wrong_inputs(self):
        for value in ANYTHING + ("Court", "cuts", ("court",), ["court"]):
            self.fails_at(Refused, "word", make_look, value, (BOOK,))
            self.fails_at(Refused, "word", make_look, value, None)
        for word, questions in QUESTIONS.items():
            many = len(questions[0])
            for value in no_sequences() + [(), [], (BOOK,) * (many + 1), (None,) * (many - 1), "x" * many]:
                self.fails_at(Refused, "question", make_look, word, value)
            for value in ANYTHING:
                question = (value,) + (None,) * (many - 1)
                if not isinstance(value, (list, tuple)) or len(value) != 2:
                    self.fails_at(InvalidBook, -1, make_look, word, question)
                    self.fails_at(InvalidBook, -1, make_look, word, list(question))
        self.fails_at(InvalidIndex, 1, make_look, "pair", [BOOK, 1, 1])
        self.fails(InvalidSize, {"word": "many"}, make_look, "several", (BOOK, 2))
        self.fails_at(InvalidProgram, -1, make_look, "kept", (BOOK, None, None))
        self.fails(InvalidSize, {"word": "k"}, make_look, "kept", (BOOK, NEVER, 0))
        self.fails_at(Refused, "rows", make_look, "splits", (BOOK, LOOPED))
        self.fails_at(InvalidCut, 1, make_look, "cells", (BOOK, ((), ((9, ()),), ())))


if __name__ == "__main__":
    unittest.main()
