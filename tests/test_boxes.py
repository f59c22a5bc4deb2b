"""[27], [28]: pairs of values of one input, whether kept sets are exact with them in all programs."""

import itertools
import random
import unittest

from foldsall.boxes import pair_holds, pair_paper, pair_rows, right_pairs
from foldsall.errors import InvalidBook, InvalidIndex, InvalidProgram
from foldsall.folding import kept_sets
from foldsall.programs import is_straight, need_program
from foldsall.runs import shown_values
from tests.helpers import (AND, ANYTHING, KEEP, LEAST, MOST, NOT, OR, SAME, TURN, XOR, Fails, Writer, all_operations, answer,
                           changed, has_lists, in_lists, no_rows_of, no_values)
from tests.test_arrows import small_books


def made(book, pairs):
    """What operations make of any of some pairs."""
    return {tuple(answer(book[0], operation, [pair[side] for pair in row]) for side in (0, 1))
            for operation in book[1] for row in itertools.product(pairs, repeat=operation[0])}


def brute_rows(book, one, other):
    pairs = {(one, other)} | {(value, value) for value in range(book[0])}
    while not made(book, pairs) <= pairs:
        pairs |= made(book, pairs)
    return tuple(sorted(pairs))


def are_right(book, pairs):
    for operation in book[1]:
        for row in itertools.product(pairs, repeat=operation[0]):
            shown = {answer(book[0], operation, [pair[side] for pair in row]) for side in (0, 1)}
            if not {answer(book[0], operation, values) for values in itertools.product(*row)} <= shown:
                return False
    return True


def is_paper(book, one, other, paper):
    """By the words of the document."""
    if not isinstance(paper, tuple) or has_lists(paper) or not paper:
        return False
    if paper[0] == "right" and len(paper) == 2:
        pairs = paper[1]
        if not isinstance(pairs, tuple) or not all(isinstance(pair, tuple) and len(pair) == 2 for pair in pairs):
            return False
        if not all(type(value) is int and 0 <= value < book[0] for pair in pairs for value in pair):
            return False
        begin = {(one, other)} | {(value, value) for value in range(book[0])}
        return (list(pairs) == sorted(set(pairs)) and begin <= set(pairs) and made(book, pairs) <= set(pairs)
                and are_right(book, pairs))
    if paper[0] != "lies" or len(paper) != 3:
        return False
    _, program, value = paper
    try:
        need_program(book, program)
    except InvalidProgram:
        return False
    if not is_straight(book, program) or program[0] != (tuple(sorted([one, other])),) or len(program[2]) != 1:
        return False
    end = program[2][0]
    return (type(value) is int and value in kept_sets(book, program)[end]
            and value not in shown_values(book, program)[end])


def books():
    yield from list(small_books())[::2]
    dice = random.Random(7)
    for _ in range(80):
        size = dice.choice((3, 3, 4))
        lot = []
        for _ in range(dice.randrange(1, 3)):
            places = dice.choice((1, 2)) if size == 3 else 1
            base = dice.randrange(size)
            lot.append((places, tuple(dice.choice((base, dice.randrange(size))) for _ in range(size ** places))))
        yield (size, tuple(lot))


class PairsTest(Fails, unittest.TestCase):
    def test_told_pairs(self):
        self.assertEqual((right_pairs((2, (SAME,))), pair_paper((2, (SAME,)), 0, 1)[0]), ((), "lies"))
        self.assertEqual(pair_rows((2, (AND,)), 0, 1), ((0, 0), (0, 1), (1, 1)))
        self.assertEqual(pair_rows((2, (AND,)), 1, 0), ((0, 0), (1, 0), (1, 1)))
        self.assertEqual(pair_paper((2, (AND,)), 1, 0), ("right", ((0, 0), (1, 0), (1, 1))))
        self.assertEqual(pair_rows((3, (TURN,)), 2, 0), ((0, 0), (0, 1), (1, 1), (1, 2), (2, 0), (2, 2)))
        self.assertEqual(pair_paper((3, ()), 2, 0), ("right", ((0, 0), (1, 1), (2, 0), (2, 2))))
        self.assertEqual(right_pairs((3, (LEAST,))), ((0, 1), (0, 2), (1, 2)))

    def test_papers(self):
        words = {"right": 0, "lies": 0}
        for book in books():
            size, right = book[0], []
            for one, other in itertools.permutations(range(size), 2):
                rows = brute_rows(book, one, other)
                self.assertEqual(pair_rows(book, one, other), rows)
                paper = pair_paper(book, one, other)
                self.assertTrue(is_paper(book, one, other, paper))
                self.assertIs(pair_holds(book, one, other, paper), True)
                words[paper[0]] += 1
                if are_right(book, rows):
                    self.assertEqual(paper, ("right", rows))
                    right.append((one, other))
                else:
                    self.assertEqual(paper[0], "lies")
                    self.assertLessEqual(sum(row[0] == "of" for row in paper[1][1]), size * (size - 1))
            self.assertEqual(right_pairs(book), tuple(pair for pair in right if pair[0] < pair[1]))
            self.assertTrue(all((other, one) in right for one, other in right))
        self.assertTrue(all(many > 100 for many in words.values()))

    def test_as_few_rows_as_told(self):
        """What has one value throughout is told, not made: else these programs had more rows."""
        for answers in ((2, 2, 2, 2, 1, 2, 2, 1, 0), (0, 0, 0, 0, 1, 0, 0, 1, 2), (1, 1, 1, 1, 0, 1, 1, 0, 2)):
            for lot in ((answers,), (answers, (0,) * 9), ((0,) * 9, answers), (answers, (2, 2, 2, 2, 1, 2, 2, 1, 0))):
                self.look_at_lines((3, tuple((2, one) for one in lot)))
        dice = random.Random(1)
        for _ in range(700):
            size = dice.choice((3, 3, 3, 4))
            lot = []
            for _ in range(dice.choice((1, 2))):
                base, places = dice.randrange(size), dice.choice((1, 2, 2))
                lot.append((places, tuple(base if dice.random() < 0.5 else dice.randrange(size)
                                          for _ in range(size ** places))))
            self.look_at_lines((size, tuple(lot)))

    def look_at_lines(self, book):
        for one, other in itertools.combinations(range(book[0]), 2):
            paper = pair_paper(book, one, other)
            if paper[0] == "lies":
                self.assertLessEqual(sum(row[0] == "of" for row in paper[1][1]), book[0] * (book[0] - 1))

    def test_right_pairs_do_not_lie(self):
        for at, book in enumerate(itertools.islice(books(), 0, None, 2)):
            for one, other in right_pairs(book):
                program = Writer(book, at, True).program(1, 8)
                program = (((one, other),),) + program[1:]
                self.assertEqual(kept_sets(book, program), shown_values(book, program))

    def test_any_right_lots(self):
        for book, one, other in (((2, (AND, OR)), 0, 1), ((2, (AND, OR)), 1, 0), ((3, (LEAST,)), 0, 2), ((2, (NOT,)), 0, 1),
                                 ((3, (TURN,)), 0, 1), ((2, (XOR,)), 0, 1)):
            rows = list(itertools.product(range(book[0]), repeat=2))
            for length in range(len(rows) + 1):
                for lot in itertools.combinations(rows, length):
                    self.assertIs(pair_holds(book, one, other, ("right", lot)), is_paper(book, one, other, ("right", lot)))

    def test_any_lies(self):
        book = (2, (XOR, NOT))
        long = ((("told", 1), ("of", 0, (0, 1)), ("of", 0, (2, 0)), ("of", 1, (3,))))
        for rows, end, value, right in (((("of", 0, (0, 0)),), 1, 1, True), ((("of", 0, (0, 0)),), 1, 0, False),
                                        (long, 4, 1, True), (long, 4, 0, False), (long, 3, 0, True), (long, 2, 0, False),
                                        ((), 0, 1, False), ((("told", 1),), 1, 0, False)):
            for one, other in ((0, 1), (1, 0)):
                self.assertIs(pair_holds(book, one, other, ("lies", (((0, 1),), rows, (end,)), value)), right)
        rows = (("of", 0, (0, 0)),)
        for program in ((((1, 0),), rows, (1,)), (((0,),), rows, (1,)), (((0, 1), (0, 1)), (("of", 0, (0, 0)),), (2,)),
                        (((0, 1),), rows, (1, 1)), (((0, 1),), rows, ()), ([(0, 1)], rows, (1,)),
                        (((0, 1),), (("fork", None, (), (), ()),) + rows, (1,)), (((False, True),), rows, (1,)), ((), (), ())):
            self.assertIs(pair_holds(book, 0, 1, ("lies", program, 1)), False)
        for value in ANYTHING + (2,):
            self.assertIs(pair_holds(book, 0, 1, ("lies", (((0, 1),), rows, (1,)), value)), type(value) is int and value == 1)
        # The list of two of three values.
        book = (3, (LEAST, (1, (2, 1, 0))))
        paper = pair_paper(book, 2, 0)
        self.assertEqual((paper[0], paper[1][0]), ("lies", ((0, 2),)))
        self.assertIs(pair_holds(book, 0, 2, paper), True)
        self.assertIs(pair_holds(book, 0, 1, paper), False)

    def test_changed_papers(self):
        for book, one, other in (((2, (AND,)), 1, 0), ((2, (XOR,)), 0, 1), ((3, (TURN, MOST)), 0, 2), ((2, (NOT, KEEP)), 0, 1)):
            paper = pair_paper(book, one, other)
            for value in itertools.chain(changed(paper), ANYTHING, (paper[:1], paper + ((),), paper[0])):
                told = pair_holds(book, one, other, value)
                self.assertIs(type(told), bool)
                self.assertEqual(told, is_paper(book, one, other, value), value)

    def test_three_places(self):
        for operation in all_operations(2, 3)[::5]:
            book = (2, (operation,))
            self.assertEqual(right_pairs(book) == ((0, 1),), are_right(book, brute_rows(book, 0, 1)))

    def test_wrong_inputs(self):
        for function in (pair_rows, pair_paper, lambda *told: pair_holds(*told, None)):
            for value in no_rows_of(2):
                self.fails_at(InvalidBook, -1, function, value, None, None)
            for value in no_values(3):
                self.fails_at(InvalidIndex, 0, function, (3, (TURN,)), value, value)
                self.fails_at(InvalidIndex, 1, function, (3, (TURN,)), 2, value)
            self.fails_at(InvalidIndex, 1, function, (3, (TURN,)), 2, 2)
        for value in no_rows_of(2):
            self.fails_at(InvalidBook, -1, right_pairs, value)
        self.same_in_lists(pair_rows, (3, (TURN, LEAST)), 0, 2)
        self.same_in_lists(pair_paper, (3, (TURN, LEAST)), 0, 2)
        self.same_in_lists(right_pairs, (3, (TURN, LEAST)))
        book = (3, (TURN, LEAST))
        self.assertIs(pair_holds(value=pair_paper(book, 1, 0), other=0, one=1, book=in_lists(book)), True)


if __name__ == "__main__":
    unittest.main()
