"""[29], [30], [31]: lists of one input with which kept sets are exact."""

import itertools
import random
import unittest

from foldsall.boxes import pair_paper, right_pairs
from foldsall.errors import InvalidBook, InvalidList
from foldsall.folding import kept_sets
from foldsall.programs import is_straight, need_program
from foldsall.runs import shown_values
from foldsall.spread import all_right, list_holds, list_paper, list_rows, right_lists
from tests.helpers import (AND, ANYTHING, KEEP, LEAST, MOST, NOT, OR, SAME, TURN, XOR, Fails, all_operations, answer, changed, has_lists,
                           in_lists, no_rows_of, rows_of)

BOOK = (2, (SAME,))
LESS = (3, (LEAST,))
SUM = (2, (0, 1, 2, 1, 2, 0, 2, 0, 1))


def lists_of(size):
    return [lot for length in range(1, size + 1) for lot in itertools.combinations(range(size), length)]


def made(size, operation, rows):
    return tuple(answer(size, operation, values) for values in zip(*rows))


def closed(book, rows):
    """All rows that operations make of some, going through all of them again and again."""
    found = set(rows)
    while True:
        more = {made(book[0], one, chosen) for one in book[1] for chosen in itertools.product(sorted(found), repeat=one[0])}
        if more <= found:
            return tuple(sorted(found))
        found |= more


def lot_of(book, values):
    return closed(book, [values] + [(value,) * len(values) for value in range(book[0])])


def is_exact(book, rows):
    """Whether operations have no answer to values of rows but those of the row that they make."""
    return all({answer(book[0], one, values) for values in itertools.product(*chosen)} <= set(made(book[0], one, chosen))
               for one in book[1] for chosen in itertools.product(rows, repeat=one[0]))


def is_lying(book, program, number, value):
    return value in kept_sets(book, program)[number] and value not in shown_values(book, program)[number]


def is_paper(book, values, paper, word="exact"):
    """By the words of the document, of any value."""
    if not isinstance(paper, tuple) or has_lists(paper):
        return False
    if len(paper) == 2 and paper[0] == word:
        rows = paper[1]
        if not isinstance(rows, tuple) or not all(isinstance(row, tuple) and len(row) == len(values) for row in rows):
            return False
        if not all(type(one) is int and 0 <= one < book[0] for row in rows for one in row) or list(rows) != sorted(set(rows)):
            return False
        if not set(rows) >= {values} | {(value,) * len(values) for value in range(book[0])}:
            return False
        return closed(book, rows) == rows and is_exact(book, rows)
    if len(paper) != 3 or paper[0] != "lies" or type(paper[2]) is not int:
        return False
    program = paper[1]
    try:
        if need_program(book, program) != program or not is_straight(book, program):
            return False
    except Exception:
        return False
    return program[0] == (values,) and len(program[2]) == 1 and is_lying(book, program, program[2][0], paper[2])


def books():
    yield from ((2, ()), (3, ()), (3, (LEAST, LEAST)), (3, ((2, (1,) * 9), (1, (0, 0, 0)))), LESS, BOOK, (3, (LEAST, MOST)), (3, (SUM,)), (3, (TURN,)), (3, (TURN, LEAST)), (2, (AND, OR)), (2, (AND, NOT)))
    for operation in all_operations(2, 1) + all_operations(2, 2):
        yield (2, (operation,))
    dice = random.Random(2)
    for _ in range(60):
        size = dice.choice((2, 3, 3))
        places = [dice.choice((1, 2)) for _ in range(dice.choice((1, 2)))]
        yield (size, tuple((one, tuple(dice.randrange(size) for _ in range(size ** one))) for one in places))
    for operation in random.Random(3).sample(all_operations(3, 1), 12):
        yield (3, (operation, LEAST))


class ListsTest(Fails, unittest.TestCase):
    def test_rows(self):
        bound = 0
        for book in books():
            for values in lists_of(book[0]):
                rows = lot_of(book, values)
                for most in (book[0] ** len(values), len(rows), 10 ** 9):
                    self.assertEqual(list_rows(book, values, most), rows)
                for most in (1, len(rows) - 1):
                    if most:
                        # No more rows are gone through than may be.
                        self.assertEqual(list_rows(book, values, most), ("bound",))
                        bound += 1
        self.assertGreater(bound, 100)
        self.assertEqual(list_rows(BOOK, (0, 1), 4), ((0, 0), (0, 1), (1, 0), (1, 1)))
        self.assertEqual(list_rows((3, ()), (1,), 3), ((0,), (1,), (2,)))

    def test_papers(self):
        kinds = {"exact": 0, "lies": 0}
        for book in books():
            for values in lists_of(book[0]):
                rows, most = lot_of(book, values), book[0] ** len(values)
                paper = list_paper(book, values, most)
                kinds[paper[0]] += 1
                self.assertFalse(has_lists(paper))
                self.assertTrue(is_paper(book, values, paper))
                self.assertIs(list_holds(book, values, paper), True)
                self.assertEqual(paper[0] == "exact", is_exact(book, rows))
                if paper[0] == "exact":
                    self.assertEqual(paper[1], rows)
                else:
                    self.assertLessEqual(sum(row[0] == "of" for row in paper[1][1]), most - book[0])
                    self.assertGreater(len(values), 1)
                for few in {1, max(1, len(rows) - 1), len(rows)}:
                    less = list_paper(book, values, few)
                    if less != ("bound",):
                        self.assertTrue(is_paper(book, values, less))
                    else:
                        self.assertLess(few, len(rows))
        self.assertGreater(min(kinds.values()), 40)

    def test_pairs(self):
        for book in books():
            for pair in itertools.combinations(range(book[0]), 2):
                self.assertEqual(list_paper(book, pair, book[0] ** 2)[0] == "exact", pair_paper(book, *pair)[0] == "right")

    def test_right_lists(self):
        apart = 0
        for book in books():
            told = tuple(values for values in lists_of(book[0]) if is_exact(book, lot_of(book, values)))
            self.assertEqual(right_lists(book), told)
            self.assertIs(all_right(book), len(told) == len(lists_of(book[0])))
            pairs = set(itertools.combinations(range(book[0]), 2))
            self.assertEqual(all_right(book), pairs <= set(told))
            apart += any(len(values) == 3 and not set(itertools.combinations(values, 2)) <= set(told) for values in told)
        self.assertEqual((all_right(LESS), right_pairs(BOOK), all_right(BOOK)), (True, (), False))
        self.assertEqual(right_lists((4, ())), tuple(lists_of(4)))
        self.assertGreater(apart, 0)

    def test_right_lists_together(self):
        """In all programs whose inputs have right lists, whichever, nothing lies."""
        dice = random.Random(9)
        for book in books():
            right = right_lists(book)
            for _ in range(6):
                lists = tuple(dice.choice(right) for _ in range(3))
                rows = []
                for at in range(6 if book[1] else 0):
                    number = dice.randrange(len(book[1]))
                    rows.append(("of", number, tuple(dice.randrange(3 + at) for _ in range(book[1][number][0]))))
                program = (lists, tuple(rows), ())
                self.assertEqual(kept_sets(book, program), shown_values(book, program))

    def test_any_paper(self):
        """Any closed lots, and any programs, however long."""
        self.assertIs(list_holds(LESS, (0, 2), ("exact", tuple(rows_of(3, 2)))), False)
        self.assertIs(list_holds((3, (TURN,)), (0, 2), ("exact", tuple(rows_of(3, 2)))), True)
        wider = closed(LESS, [(0, 2), (0, 1), (0, 0), (1, 1), (2, 2)])
        self.assertIs(list_holds(LESS, (0, 2), ("exact", wider)), True)
        for rows in (wider[:-1], wider[1:], ((0, 0), (0, 2), (1, 1), (2, 2)), ((0, 0), (1, 1), (2, 2)), wider + wider[-1:], wider[::-1]):
            self.assertIs(list_holds(LESS, (0, 2), ("exact", rows)), is_paper(LESS, (0, 2), ("exact", rows)))
        longer = (((0, 1),), (("of", 0, (0, 0)), ("told", 0), ("of", 0, (1, 2))), (1,))
        for end in range(4):
            for value in (0, 1, 2, True):
                paper = ("lies", longer[:2] + ((end,),), value)
                self.assertIs(list_holds(BOOK, (0, 1), paper), is_paper(BOOK, (0, 1), paper))
                self.assertIs(list_holds(BOOK, (0,), paper), False)
        self.assertIs(list_holds(BOOK, (0, 1), ("bound",)), False)

    def test_changed_papers(self):
        for book, values in ((BOOK, (0, 1)), (BOOK, (1,)), (LESS, (0, 2)), ((3, (SUM,)), (0, 1)), ((3, (TURN,)), (0, 1, 2))):
            paper = list_paper(book, values, 27)
            for value in itertools.chain(changed(paper), ANYTHING, (("exact", ()), ("exact",), paper[:2])):
                told = list_holds(book, values, value)
                self.assertIs(type(told), bool)
                self.assertEqual(told, is_paper(book, values, value), value)

    def test_wrong_inputs(self):
        functions = (list_rows, list_paper, list_holds)
        for function in functions + (lambda book, values, most: right_lists(book), lambda book, values, most: all_right(book)):
            for value in no_rows_of(2):
                self.fails_at(InvalidBook, -1, function, value, None, None)
            self.fails_at(InvalidBook, 1, function, (2, (AND, (1, (0, 2)))), None, None)
        wrong = [value for value in ANYTHING if value not in ([True], (1, 2, 3))]
        wrong += [(), (2,), (1, 0), (0, 0), (0, 2), (True,), [True], (1, 2, 3), (-1, 0), "01", (0, (1,)), 0]
        for function in functions:
            for value in wrong:
                self.fails_at(InvalidList, -1, function, BOOK, value, None)
        for function in functions[:2]:
            for value in ANYTHING + (0, -5):
                if type(value) is not int or value < 1:
                    self.fails_size("most", function, BOOK, (0, 1), value)
            self.same_in_lists(function, BOOK, (0, 1), 4)
        for size in range(5, 9):
            self.fails_size("values", right_lists, (size, ()))
            self.assertIs(all_right((size, ())), True)
        self.same_in_lists(right_lists, BOOK)
        self.same_in_lists(all_right, BOOK)
        self.assertIs(list_holds(value=list_paper(BOOK, (0, 1), 4), values=[0, 1], book=in_lists(BOOK)), True)

    def test_the_limits(self):
        both = (3, (LEAST, MOST))
        self.assertEqual(list_paper(both, (0, 1, 2), 27)[0], "exact")
        self.assertEqual(list_paper((3, (SUM, LEAST)), (0, 1, 2), 27)[0], "lies")
        four = (4, (tuple((2, tuple(choose(one, two) for one in range(4) for two in range(4))) for choose in (min, max))))
        for pair in itertools.combinations(range(4), 2):
            self.assertTrue(is_paper(four, pair, list_paper(four, pair, 16)))
            self.assertEqual(list_rows(four, pair, 16), lot_of(four, pair))
        self.assertEqual(list_paper((2, (KEEP, XOR)), (0, 1), 4)[0], "lies")


if __name__ == "__main__":
    unittest.main()
