"""[42], [43]: programs with unseen forks and loops of any number; for which operations nothing is lost there."""

import itertools
import math
import random
import unittest

from foldsall.errors import InvalidBook, InvalidIndex, InvalidProgram
from foldsall.folding import folded_values, kept_sets
from foldsall.joins import finds_hold, finds_paper, joins_hold, joins_paper, let_part, looks_at
from foldsall.programs import need_program
from foldsall.runs import shown_values
from tests.helpers import (AND, ANYTHING, KEEP, LEAST, MOST, NOT, OR, TURN, XOR, Fails, Writer, all_operations, answer,
                           changed, has_lists, in_lists, no_rows_of, no_values, rows_of)
from tests.test_tables import brute_hung

BOOK = (2, (AND, NOT, (2, (0, 0, 1, 1))))
FIRST = (2, (0, 0, 1, 1))


def is_look(size, operation, look):
    """Whether this is what an operation looks at, by the words of the document."""
    places, answers = operation
    hung = brute_hung(size, operation)
    if not hung:
        return look == ("constant", answers[0])
    if len(hung) == 1:
        rows = [tuple(value if at == hung[0] else 0 for at in range(places)) for value in range(size)]
        return look == ("one", hung[0], tuple(answer(size, operation, row) for row in rows))
    if look[0] != "two" or len(look) != 4 or not look[1] < look[2] or len(look[3]) != places:
        return False
    if [at for at, value in enumerate(look[3]) if value is None] != [look[1], look[2]]:
        return False
    table = {}
    for one, other in rows_of(size, 2):
        row = [one if at == look[1] else other if at == look[2] else value for at, value in enumerate(look[3])]
        table[one, other] = answer(size, operation, row)
    return (any(table[one, near] != table[other, near] for one, other, near in rows_of(size, 3))
            and any(table[near, one] != table[near, other] for one, other, near in rows_of(size, 3)))


def is_kind(size, operation, word):
    """Whether one operation is let, by itself."""
    hung = brute_hung(size, operation)
    if word == "exact" or len(hung) != 1:
        return len(hung) < 2
    return len(set(operation[1])) == size


def are_free(rows):
    return all(row[0] in ("told", "of") or (row[1] is None and are_free(row[2] + row[3] if row[0] == "fork" else row[3]))
               for row in rows)


def is_paper(book, paper, word):
    """By the words of the document; `word` is "exact" or "finds"."""
    if not isinstance(paper, tuple) or has_lists(paper) or not paper:
        return False
    if paper[0] == word:
        looks = tuple(looks_at(book, at) for at in range(len(book[1])))
        return (len(paper) == 2 and repr(paper[1]) == repr(looks)
                and all(is_kind(book[0], operation, word) for operation in book[1]))
    if paper[0] != ("lies" if word == "exact" else "misses") or len(paper) != (4 if word == "exact" else 3):
        return False
    program, number = paper[1:3]
    try:
        need_program(book, program)
    except InvalidProgram:
        return False
    kept = kept_sets(book, program)
    if not are_free(program[1]) or type(number) is not int or not 0 <= number < len(kept):
        return False
    shown = shown_values(book, program)[number]
    if word == "finds":
        return len(shown) == 1 and folded_values(book, program)[number] is None
    return type(paper[3]) is int and paper[3] in kept[number] and paper[3] not in shown


def small_books():
    for operation in all_operations(2, 1) + all_operations(2, 2) + all_operations(2, 3):
        yield (2, (operation,))
    for operation in all_operations(3, 1) + all_operations(3, 2)[::131]:
        yield (3, (operation,))
    dice = random.Random(1)
    for _ in range(60):
        size = dice.choice((2, 3))
        lot = dice.sample(all_operations(size, 1) + [FIRST, AND, XOR] * (size == 2), dice.randrange(4))
        yield (size, tuple(lot))
    yield (4, ((2, tuple(min(row) for row in rows_of(4, 2))),))
    yield (3, ((3, tuple(max(row[0], row[2]) for row in rows_of(3, 3))),))


class Free(Writer):
    """Free programs: forks unseen, loops of any number."""

    def fork(self, seen, deep):
        row = Writer.fork(self, seen, deep)
        return row[:1] + (None,) + row[2:]

    def loop(self, seen, deep):
        row = Writer.loop(self, seen, deep)
        return row[:1] + (None,) + row[2:]


class LooksTest(Fails, unittest.TestCase):
    def test_looks(self):
        for book in small_books():
            for at, operation in enumerate(book[1]):
                self.assertTrue(is_look(book[0], operation, looks_at(book, at)))
                self.assertFalse(has_lists(looks_at(book, at)))
        self.assertEqual([looks_at(BOOK, at) for at in range(3)], [("two", 0, 1, (None, None)), ("one", 0, (1, 0)),
                                                                   ("one", 0, (0, 1))])
        self.assertEqual(looks_at((3, ((2, (2,) * 9),)), 0), ("constant", 2))
        self.assertEqual(looks_at((2, ((3, (0, 0, 1, 1, 0, 0, 1, 1)),)), 0), ("one", 1, (0, 1)))

    def test_let_parts(self):
        self.assertEqual(let_part(BOOK, "finds"), (1, 2))
        for book in small_books():
            for word in ("exact", "finds"):
                told = tuple(at for at, operation in enumerate(book[1]) if is_kind(book[0], operation, word))
                self.assertEqual(let_part(book, word), told)
                self.assertEqual(told == tuple(range(len(book[1]))),
                                 (joins_paper if word == "exact" else finds_paper)(book)[0] == word)
        # As many as the document tells of some places.
        for size, places in ((2, 1), (2, 2), (2, 3), (3, 1), (3, 2)):
            exact, finds = (0, 0)
            if size ** size ** places < 20000:
                operations = all_operations(size, places)
                exact = sum(let_part((size, (one,)), "exact") == (0,) for one in operations)
                finds = sum(let_part((size, (one,)), "finds") == (0,) for one in operations)
                self.assertEqual(exact, size + places * (size ** size - size))
                self.assertEqual(finds, size + places * math.factorial(size))

    def test_wrong_inputs(self):
        for value in no_rows_of(2):
            self.fails_at(InvalidBook, -1, looks_at, value, None)
            self.fails_at(InvalidBook, -1, let_part, value, None)
            for function in (joins_paper, finds_paper):
                self.fails_at(InvalidBook, -1, function, value)
            for function in (joins_hold, finds_hold):
                self.fails_at(InvalidBook, -1, function, value, None)
        for value in no_values(3):
            self.fails_at(InvalidIndex, -1, looks_at, BOOK, value)
        for value in ANYTHING + ("Exact", "find", ("exact",), ["finds"]):
            self.fails_size("word", let_part, BOOK, value)
        self.same_in_lists(looks_at, BOOK, 0)
        self.same_in_lists(let_part, BOOK, "exact")


class PapersTest(Fails, unittest.TestCase):
    def test_told_papers(self):
        self.assertEqual((joins_paper(BOOK)[0], finds_paper((2, BOOK[1][1:]))),
                         ("lies", ("finds", (("one", 0, (1, 0)), ("one", 0, (0, 1))))))
        self.assertEqual(joins_paper((3, ())), ("exact", ()))
        self.assertEqual(finds_paper((3, ())), ("finds", ()))

    def test_papers(self):
        for book in small_books():
            for paper, hold, word in ((joins_paper(book), joins_hold, "exact"), (finds_paper(book), finds_hold, "finds")):
                self.assertFalse(has_lists(paper))
                self.assertTrue(is_paper(book, paper, word), (book, paper))
                self.assertIs(hold(book, paper), True)
                self.assertEqual(paper[0] == word, all(is_kind(book[0], one, word) for one in book[1]))

    def test_all_operations_of_three_values(self):
        for operation in all_operations(3, 2)[::17]:
            for paper, word in ((joins_paper((3, (operation,))), "exact"), (finds_paper((3, (operation,))), "finds")):
                self.assertTrue(is_paper((3, (operation,)), paper, word))

    def test_free_programs(self):
        """Exact books keep what is shown, in all free programs; where folding finds all, it finds all."""
        exact = finds = 0
        for seed, book in enumerate(itertools.islice(itertools.cycle([
                (2, (NOT, FIRST)), (3, (TURN,)), (3, ((1, (0, 0, 2)), (2, tuple(row[1] for row in rows_of(3, 2))))),
                (2, ((2, (1, 1, 1, 1)), (1, (1, 1)))), (3, ((1, (1, 1, 2)), TURN)), (2, ())]), 240)):
            program = Free(book, seed).program(2, 6)
            self.assertTrue(are_free(program[1]))
            kept, shown = kept_sets(book, program), shown_values(book, program)
            self.assertEqual(joins_paper(book)[0], "exact")
            self.assertEqual(kept, shown)
            exact += 1
            if finds_paper(book)[0] == "finds":
                finds += 1
                for fold, values in zip(folded_values(book, program), shown):
                    self.assertEqual(fold, values[0] if len(values) == 1 else None)
        self.assertGreater(min(exact, finds), 100)

    def test_any_lies(self):
        book = (2, (AND, NOT))
        pair = ("fork", None, (("told", 0), ("told", 1)), (("told", 1), ("told", 0)), ((0, 2), (1, 3)))
        program = ((), (pair, ("of", 0, (4, 5)), ("of", 1, (6,))), ())
        for number, value in itertools.product(range(-1, 9), (0, 1, 2, True, None)):
            right = (number, value) in ((6, 1), (7, 0)) and type(value) is int
            self.assertIs(joins_hold(book, ("lies", program, number, value)), right)
        for number in list(range(-1, 9)) + [True, None, "6"]:
            self.assertIs(finds_hold(book, ("misses", program, number)), type(number) is int and number in (6, 7))
        # Inputs, loops and rows that are never come to.
        loop = (((0, 1),), (("loop", None, (0,), (), (0,)), ("of", 1, (0,)), ("of", 0, (1, 2))), (3,))
        self.assertIs(joins_hold(book, ("lies", loop, 3, 1)), is_paper(book, ("lies", loop, 3, 1), "exact"))
        straight = (((0, 1),), (("of", 1, (0,)), ("of", 0, (0, 1))), (2,))
        self.assertIs(joins_hold(book, ("lies", straight, 2, 1)), True)
        self.assertIs(finds_hold(book, ("misses", straight, 2)), True)
        for rows in ((("fork", (0, 1), (), (), ()),), (("loop", 3, (0,), (), (0,)),), (("loop", 0, (0,), (), (0,)),),
                     (("fork", None, (("fork", (0, 0), (), (), ()),), (), ()),),
                     (("fork", None, (), (("loop", 1, (0,), (), (0,)),), ()),),
                     (("loop", None, (0,), (("fork", (0, 0), (), (), ()),), (0,)),)):
            told = (((0, 1),), (("of", 1, (0,)), ("of", 0, (0, 1))) + rows, ())
            self.assertIs(joins_hold(book, ("lies", told, 2, 1)), False)
            self.assertIs(finds_hold(book, ("misses", told, 2)), False)
        idle = ((), (("fork", None, (), (("told", 1),), ()),), ())
        self.assertIs(finds_hold(book, ("misses", idle, 0)), False)

    def test_right_ones_alone(self):
        self.assertIs(joins_hold((2, (NOT,)), ("exact", (("one", 0, (1, 0)),))), True)
        for looks in ((), [("one", 0, (1, 0))], (["one", 0, (1, 0)],), (("one", False, (1, 0)),), (("one", 0, (True, 0)),),
                      (("one", 0, [1, 0]),), (("one", 0, (0, 1)),), (("one", 0, (1, 0)),) * 2, (("two", 0, 1, (None, None)),)):
            self.assertIs(joins_hold((2, (NOT,)), ("exact", looks)), False)
            self.assertIs(finds_hold((2, (NOT,)), ("finds", looks)), False)
        looks = tuple(looks_at(BOOK, at) for at in range(3))
        self.assertIs(joins_hold(BOOK, ("exact", looks)), False)
        self.assertIs(finds_hold(BOOK, ("finds", looks)), False)
        self.assertIs(joins_hold((2, (NOT,)), ("finds", (("one", 0, (1, 0)),))), False)
        self.assertIs(finds_hold((2, (NOT,)), ("exact", (("one", 0, (1, 0)),))), False)
        flat = (3, ((1, (0, 0, 1)),))
        self.assertIs(joins_hold(flat, ("exact", (("one", 0, (0, 0, 1)),))), True)
        self.assertIs(finds_hold(flat, ("finds", (("one", 0, (0, 0, 1)),))), False)

    def test_changed_papers(self):
        for book in (BOOK, (2, (NOT, FIRST)), (2, (XOR,)), (3, ((1, (0, 0, 1)),)), (3, (LEAST, MOST)), (2, (OR, KEEP))):
            for paper, hold, word in ((joins_paper(book), joins_hold, "exact"), (finds_paper(book), finds_hold, "finds")):
                for value in itertools.chain(changed(paper), ANYTHING, (paper[:1], paper + ((),), paper[0])):
                    told = hold(book, value)
                    self.assertIs(type(told), bool)
                    self.assertEqual(told, is_paper(book, value, word), value)

    def test_lists(self):
        for paper, hold in ((joins_paper, joins_hold), (finds_paper, finds_hold)):
            told = self.same_in_lists(paper, BOOK)
            self.assertIs(hold(value=told, book=in_lists(BOOK)), True)


if __name__ == "__main__":
    unittest.main()
