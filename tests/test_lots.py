"""[55]: lots of operations that are let, and stories of two values."""

import itertools
import random
import unittest

from foldsall.errors import InvalidBook, InvalidIndex, InvalidList, InvalidLot, Refused
from foldsall.lots import let_lots, lot_holds, lot_paper, pair_lots
from tests.helpers import (AND, ANYTHING, KEEP, LEAST, MOST, NOT, OR, TURN, XOR, Fails, answer, changed, has_lists,
                           no_rows_of, no_sequences, no_values, rows_of)
from tests.test_court import end_row, is_story

BOOKS = [(2, (AND, OR, NOT, XOR)), (2, (AND, NOT, (2, (0, 0, 0, 0)))), (3, (LEAST, MOST, TURN)), (2, ()),
         (3, (LEAST, (1, (1, 1, 2)), (1, (0, 1, 1)))), (3, ((1, (1, 0, 2)), (1, (0, 0, 2)), (2, (1,) * 9))),
         (2, (KEEP, (3, (0, 0, 0, 1, 0, 1, 1, 1)), NOT)), (4, ((1, (1, 2, 3, 0)), (1, (0, 1, 2, 0))))]


def lots(many):
    return [lot for length in range(many + 1) for lot in itertools.combinations(range(many), length)]


def is_closed(book, lot, values):
    for number in lot:
        operation = book[1][number]
        made = {answer(book[0], operation, row) for row in itertools.product(values, repeat=operation[0])}
        if len(set(operation[1])) == 1:
            made |= set(operation[1])
        if not made <= set(values):
            return False
    return True


def held_operations(book, lot, values):
    """The held operations of a lot that are not dull, as functions of the values at the places left."""
    for number in lot:
        operation = book[1][number]
        for held in itertools.product([None] + list(values), repeat=operation[0]):
            left = [place for place, value in enumerate(held) if value is None]
            table = {}
            for row in rows_of(book[0], len(left)):
                whole = list(held)
                for place, value in zip(left, row):
                    whole[place] = value
                table[row] = answer(book[0], operation, whole)
            if left and len(set(table.values())) > 1:
                yield len(left), table


def led(tables, pairs):
    return {(table[tuple(pair[0] for pair in row)], table[tuple(pair[1] for pair in row)])
            for many, table in tables for row in itertools.product(sorted(pairs), repeat=many)}


def merges(book, lot, values, pair):
    pairs, tables = {pair}, list(held_operations(book, lot, values))
    while not led(tables, pairs) <= pairs:
        pairs |= led(tables, pairs)
    return any(one == other for one, other in pairs)


def is_let(book, lot, values):
    return any(not merges(book, lot, values, pair) for pair in itertools.combinations(range(book[0]), 2))


def is_paper(book, lot, values, paper):
    """By the words of the document."""
    word, told = paper
    if has_lists(paper):
        return False
    if word == "let":
        if not told or list(told) != sorted(set(told)) or not all(
                len(pair) == 2 and all(type(one) is int and 0 <= one < book[0] for one in pair) and pair[0] != pair[1]
                for pair in told):
            return False
        return led(list(held_operations(book, lot, values)), set(told)) <= set(told)
    couples = list(itertools.combinations(range(book[0]), 2))
    if word != "not" or [row[:2] for row in told] != couples or not all(len(row) == 3 for row in told):
        return False
    for one, other, program in told:
        if type(one) is not int or type(other) is not int or not is_story(book, program):
            return False
        if not all(row[1] in (values if row[0] == "told" else lot) for row in program[1]):
            return False
        ends = end_row(book, program)
        if ends[one] != ends[other]:
            return False
    return True


class PapersTest(Fails, unittest.TestCase):
    def test_papers(self):
        words = set()
        for book in BOOKS:
            for lot in lots(len(book[1])):
                for values in lots(book[0]):
                    if not is_closed(book, lot, values):
                        self.fails_at(Refused, -1, lot_paper, book, lot, values)
                        self.fails_at(Refused, -1, lot_holds, book, lot, values, None)
                        continue
                    paper = lot_paper(book, list(lot), values)
                    self.assertTrue(is_paper(book, lot, values, paper))
                    self.assertIs(lot_holds(book, lot, list(values), paper), True)
                    self.assertEqual(paper[0] == "let", is_let(book, lot, values))
                    words.add(paper[0])
        self.assertEqual(words, {"let", "not"})

    def test_edges(self):
        self.assertEqual(lot_paper((2, ()), (), ())[0], "let")
        self.assertEqual(lot_paper((2, (XOR,)), (), (0, 1))[0], "let")
        # Exclusive or without a told value still brings all together; "and" with "not" needs one.
        self.assertEqual(lot_paper((2, (XOR,)), (0,), ())[0], "not")
        self.assertEqual(lot_paper((2, (AND, NOT)), (0, 1), ())[0], "not")
        self.assertEqual(lot_paper((3, (LEAST, MOST)), (0, 1), ())[0], "let")
        self.assertEqual(lot_paper((3, (LEAST, MOST)), (0, 1), (0, 2))[0], "let")
        self.assertEqual(lot_paper((3, (LEAST, MOST)), (0, 1), (1,))[0], "not")
        # Of a constant operation its answer is to be among the values.
        self.fails_at(Refused, -1, lot_paper, (2, ((2, (1, 1, 1, 1)),)), (0,), ())
        self.assertEqual(lot_paper((2, ((2, (1, 1, 1, 1)),)), (0,), (1,))[0], "let")

    def test_changed_papers(self):
        cases = [((2, (AND, NOT)), (0, 1), (0, 1)), ((2, (AND, NOT)), (0,), (0, 1)), ((2, (AND, NOT)), (1,), ()),
                 ((3, (LEAST, MOST, TURN)), (0, 1), (1,)), ((3, (LEAST, MOST)), (0, 1), (0, 2))]
        for book, lot, values in cases:
            paper = lot_paper(book, lot, values)
            for value in changed(paper):
                try:
                    right = isinstance(value, tuple) and is_paper(book, lot, values, value)
                except Exception:
                    right = False
                self.assertIs(lot_holds(book, lot, values, value), right)
            for value in ANYTHING:
                self.assertIs(lot_holds(book, lot, values, value), False)
                for word in ("let", "not"):
                    self.assertIs(lot_holds(book, lot, values, (word, value)), False)
                    self.assertIs(lot_holds(book, lot, values, (word, (value,))), False)

    def test_other_papers(self):
        book = (2, (AND, NOT))
        story = (((0, 1),), (("of", 1, (0,)), ("of", 0, (0, 1))), (2,))
        told = (((0, 1),), (("told", 1), ("of", 1, (0,)), ("of", 0, (0, 2))), (3,))
        self.assertIs(lot_holds(book, (0, 1), (0, 1), ("not", ((0, 1, story),))), True)
        self.assertIs(lot_holds(book, (0, 1), (), ("not", ((0, 1, story),))), True)
        self.assertIs(lot_holds(book, (0, 1), (0, 1), ("not", ((0, 1, told),))), True)
        self.assertIs(lot_holds(book, (0, 1), (), ("not", ((0, 1, told),))), False)
        self.assertIs(lot_holds(book, (0,), (0, 1), ("not", ((0, 1, story),))), False)
        self.assertIs(lot_holds(book, (0, 1), (0, 1), ("not", ((1, 0, story),))), False)
        self.assertIs(lot_holds(book, (1,), (0, 1), ("let", ((0, 1), (1, 0)))), True)
        self.assertIs(lot_holds(book, (1,), (0, 1), ("let", ((0, 1),))), False)
        self.assertIs(lot_holds(book, (0,), (0, 1), ("let", ((1, 0),))), True)
        fork = (((0, 1),), (("fork", None, (), (), ()),) + story[1], (2,))
        self.assertIs(lot_holds(book, (0, 1), (0, 1), ("not", ((0, 1, fork),))), False)

    def test_let_means_that_nothing_is_missed(self):
        dice = random.Random(55)
        for _ in range(40):
            operations = tuple((2, tuple(dice.randrange(2) for _ in range(4))) for _ in range(2))
            book = (2, operations)
            missed = any(len(set(end_row(book, program))) == 1 for program in self.stories(book))
            self.assertEqual(missed, lot_paper(book, (0, 1), (0, 1))[0] == "not")

    def stories(self, book):
        """All stories of two operations behind two told values."""
        for one in itertools.product(range(2), itertools.product(range(3), repeat=2)):
            for other in itertools.product(range(2), itertools.product(range(4), repeat=2)):
                rows = (("told", 0), ("told", 1), ("of", one[0], one[1]), ("of", other[0], other[1]))
                for end in (3, 4):
                    program = ((tuple(range(book[0])),), rows, (end,))
                    if is_story(book, program):
                        yield program


class LotsTest(Fails, unittest.TestCase):
    def test_let_lots_and_pair_lots(self):
        dice = random.Random(56)
        books = list(BOOKS)
        for _ in range(40):
            size = dice.choice((2, 3))
            operations = []
            for _ in range(dice.randrange(6)):
                places = dice.choice((1, 2))
                operations.append((places, tuple(dice.randrange(size) for _ in range(size ** places))))
            books.append((size, tuple(operations)))
        for book in books:
            everything, every = lots(len(book[1])), tuple(range(book[0]))
            let = [set(lot) for lot in everything if is_let(book, lot, every)]
            greatest = [lot for lot in let if not any(lot < other for other in let)]
            self.assertEqual(let_lots(book), tuple(sorted(tuple(sorted(lot)) for lot in greatest)))
            told = {}
            for pair in itertools.permutations(range(book[0]), 2):
                bad = [set(lot) for lot in everything if merges(book, lot, every, pair)]
                least = [lot for lot in bad if not any(other < lot for other in bad)]
                told[pair] = pair_lots(book, *pair)
                self.assertEqual(told[pair], tuple(sorted(tuple(sorted(lot)) for lot in least)))
            for lot in everything:
                free = any(not any(set(other) <= set(lot) for other in found) for found in told.values())
                self.assertEqual(free, set(lot) in let)

    def test_told_lots(self):
        self.assertEqual(let_lots((2, (AND, OR, NOT, XOR))), ((0, 1), (2,)))
        self.assertEqual(pair_lots((2, (AND, OR, NOT, XOR)), 1, 0), ((0, 2), (1, 2), (3,)))
        self.assertEqual(let_lots((2, ())), ((),))
        self.assertEqual(pair_lots((2, ()), 0, 1), ())
        self.assertEqual(let_lots((2, (XOR,))), ((),))

    def test_wrong_inputs(self):
        book = (3, (LEAST, MOST, TURN))
        for value in no_rows_of(2):
            for function in (lambda one: lot_paper(one, None, None), lambda one: lot_holds(one, None, None, None),
                             let_lots, lambda one: pair_lots(one, None, None)):
                self.fails_at(InvalidBook, -1, function, value)
        for function in (lot_paper, lambda one, lot, values: lot_holds(one, lot, values, None)):
            for value in no_sequences():
                self.fails_at(InvalidLot, -1, function, book, value, None)
                self.fails_at(InvalidList, -1, function, book, (0,), value)
            for value in no_values(3):
                self.fails_at(InvalidLot, 0, function, book, [value, None], None)
                self.fails_at(InvalidLot, 1, function, book, [0, value], None)
                self.fails_at(InvalidList, 0, function, book, (0,), [value, None])
                self.fails_at(InvalidList, 2, function, book, (0,), (0, 1, value))
            for lot in ((1, 0), (1, 1), (0, 1, 1), (0, 2, 1)):
                self.fails_at(InvalidLot, len(lot) - 1, function, book, lot, None)
                self.fails_at(InvalidList, len(lot) - 1, function, book, (2,), lot)
            self.fails_at(Refused, -1, function, book, (2,), (0, 1))
        for value in no_values(3):
            self.fails_at(InvalidIndex, 0, pair_lots, book, value, value)
            self.fails_at(InvalidIndex, 1, pair_lots, book, 1, value)
        self.fails_at(InvalidIndex, 1, pair_lots, book, 1, 1)

    def test_names_and_lists(self):
        book = (3, (LEAST, MOST, TURN))
        self.same_in_lists(lot_paper, book, (0, 1), (0, 1))
        self.same_in_lists(let_lots, book)
        self.same_in_lists(pair_lots, book, 0, 1)
        self.assertIs(lot_holds(book=book, lot=[0], values=[0], value=lot_paper(book, (0,), (0,))), True)


if __name__ == "__main__":
    unittest.main()
