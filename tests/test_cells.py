"""[58], the part of `cells`: the fewest cells to change."""

import itertools
import random
import unittest

from foldsall.cells import book_cells, book_cells_hold, rising_holds, rising_paper
from foldsall.errors import InvalidBook, InvalidOperation, Refused
from tests.helpers import (AND, ANYTHING, KEEP, LEAST, MOST, NOT, OR, SAME, TURN, XOR, Fails, all_operations, changed,
                           has_lists, no_rows_of, rows_of)


def under(one, other):
    return one != other and all(low <= high for low, high in zip(one, other))


def has_fall(size, operation):
    rows = rows_of(size, operation[0])
    return any(under(rows[one], rows[other]) and operation[1][one] > operation[1][other]
               for one in range(len(rows)) for other in range(len(rows)))


def unlike(one, other):
    return sum(first != second for first, second in zip(one, other))


def fewest_to_rise(size, operation):
    return min(unlike(operation[1], other[1]) for other in all_operations(size, operation[0])
               if not has_fall(size, other))


def singles(places):
    rows = rows_of(2, places)
    yield from ((0,) * len(rows), (1,) * len(rows))
    for place in range(places):
        yield tuple(row[place] for row in rows)
        yield tuple(1 - row[place] for row in rows)


def are_fall_rows(size, operation, rows):
    cells = rows_of(size, operation[0])
    falls = all(under(cells[one], cells[other]) and operation[1][one] > operation[1][other]
                for row in rows for one, other in zip(row, row[1:]))
    return falls and all(rows) and sorted(itertools.chain(*rows)) == list(range(len(cells)))


class RisingTest(Fails, unittest.TestCase):
    def check(self, size, operation, fewest):
        paper = rising_paper(size, operation)
        self.assertFalse(has_lists(paper))
        rows, answers = paper
        self.assertTrue(are_fall_rows(size, operation, rows))
        self.assertFalse(has_fall(size, (operation[0], answers)))
        self.assertEqual(unlike(operation[1], answers), len(answers) - len(rows))
        if fewest is not None:
            self.assertEqual(len(answers) - len(rows), fewest)
        self.assertIs(rising_holds(size, operation, paper), True)

    def test_papers_in_full(self):
        for size, places in ((2, 1), (2, 2), (3, 1)):
            for operation in all_operations(size, places):
                self.check(size, operation, fewest_to_rise(size, operation))
        rising = [other for other in all_operations(2, 3) if not has_fall(2, other)]
        for operation in all_operations(2, 3):
            self.check(2, operation, min(unlike(operation[1], other[1]) for other in rising))

    def test_further_papers(self):
        dice = random.Random(58)
        for size, places, many in ((3, 2, 60), (4, 2, 20), (3, 3, 5), (8, 1, 20), (8, 2, 3)):
            for _ in range(many):
                self.check(size, (places, tuple(dice.randrange(size) for _ in range(size ** places))), None)
        self.check(8, (1, (7, 6, 5, 4, 3, 2, 1, 0)), 7)
        self.check(8, (3, (0,) * 512), 0)

    def test_judge(self):
        dice = random.Random(59)
        for size, operation in ((2, XOR), (2, NOT), (2, KEEP), (3, TURN), (2, (3, (0, 1, 1, 0, 1, 0, 0, 1)))):
            rows, answers = rising_paper(size, operation)
            for _ in range(3):
                mixed = list(rows)
                dice.shuffle(mixed)
                self.assertIs(rising_holds(size, operation, (tuple(mixed), answers)), True)
            for paper in changed((rows, answers)):
                right = (isinstance(paper, tuple) and len(paper) == 2 and not has_lists(paper)
                         and self.is_right(size, operation, paper))
                self.assertIs(rising_holds(size, operation, paper), right)
        # Rows of falls that are more than need be tell no answers that differ in so few cells.
        self.assertIs(rising_holds(2, NOT, (((0,), (1,)), (0, 0))), False)
        self.assertIs(rising_holds(2, NOT, (((0, 1),), (0, 0))), True)
        self.assertIs(rising_holds(2, NOT, (((0, 1),), (1, 1))), True)
        self.assertIs(rising_holds(2, NOT, (((0, 1),), (0, 1))), False)
        self.assertIs(rising_holds(2, NOT, (((1, 0),), (0, 0))), False)
        self.assertIs(rising_holds(2, KEEP, (((0,), (1,)), (0, 1))), True)
        self.assertIs(rising_holds(2, KEEP, (((0,), (1,)), (False, True))), False)
        for value in ANYTHING:
            self.assertIs(rising_holds(2, NOT, value), False)
            self.assertIs(rising_holds(2, NOT, (((0, 1),), value)), False)
            self.assertIs(rising_holds(2, NOT, (value, (0, 0))), False)
            self.assertIs(rising_holds(2, NOT, ((value,), (0, 0))), False)

    def is_right(self, size, operation, paper):
        rows, answers = paper
        if not isinstance(rows, tuple) or not isinstance(answers, tuple):
            return False
        if not all(isinstance(row, tuple) and all(type(cell) is int and 0 <= cell < len(operation[1]) for cell in row)
                   for row in rows):
            return False
        if len(answers) != len(operation[1]) or not all(type(one) is int and 0 <= one < size for one in answers):
            return False
        return (are_fall_rows(size, operation, rows) and not has_fall(size, (operation[0], answers))
                and unlike(operation[1], answers) == len(answers) - len(rows))

    def test_wrong_inputs(self):
        for size in ANYTHING + (9, 1):
            self.fails_size("size", rising_paper, size, None)
            self.fails_size("size", rising_holds, size, None, None)
        for value in list(ANYTHING) + [AND, (4, (0,) * 81)]:
            self.fails_at(InvalidOperation, -1, rising_paper, 3, value)
            self.fails_at(InvalidOperation, -1, rising_holds, 3, value, None)

    def test_lists_for_tuples(self):
        self.same_in_lists(rising_paper, 3, TURN)
        self.assertIs(rising_holds(3, [1, [1, 2, 0]], rising_paper(3, TURN)), True)


class BookCellsTest(Fails, unittest.TestCase):
    def sums(self, operations):
        return (sum(fewest_to_rise(2, operation) for operation in operations),
                sum(min(unlike(operation[1], single) for single in singles(operation[0])) for operation in operations))

    def check(self, operations):
        many, others, rows = paper = book_cells((2, operations))
        self.assertFalse(has_lists(paper))
        self.assertEqual(many, min(self.sums(operations)))
        self.assertEqual([other[0] for other in others], [operation[0] for operation in operations])
        self.assertEqual(sum(unlike(one[1], other[1]) for one, other in zip(operations, others)), many)
        self.assertTrue(not any(has_fall(2, other) for other in others)
                        or all(other[1] in singles(other[0]) for other in others))
        self.assertEqual(len(rows), len(operations))
        cells = 0
        for operation, row in zip(operations, rows):
            self.assertTrue(are_fall_rows(2, operation, row))
            cells += len(operation[1]) - len(row)
        self.assertGreaterEqual(cells, many)
        self.assertIs(book_cells_hold((2, operations), paper), True)

    def test_papers(self):
        for operation in all_operations(2, 1) + all_operations(2, 2):
            self.check((operation,))
            self.check((operation, XOR))
            self.check((operation, NOT, NOT))
        for operation in all_operations(2, 3)[::11]:
            self.check((operation, NOT))
        self.check(())
        self.check((XOR, SAME, AND, OR, NOT, NOT, NOT, NOT))

    def test_judge(self):
        book = (2, (AND, NOT))
        self.assertIs(book_cells_hold(book, (1, (AND, (1, (0, 0))), (((0,), (1,), (2,), (3,)), ((0, 1),)))), True)
        self.assertIs(book_cells_hold(book, (1, (AND, (1, (1, 1))), (((3,), (1,), (2,), (0,)), ((0, 1),)))), True)
        self.assertIs(book_cells_hold(book, (1, ((2, (0, 0, 1, 1)), NOT), (((0,), (1,), (2,), (3,)), ((0, 1),)))), True)
        # Not enough rows of falls, not let, not so many cells, not as many places.
        self.assertIs(book_cells_hold(book, (1, (AND, (1, (0, 0))), (((0,), (1,), (2,), (3,)), ((0,), (1,))))), False)
        self.assertIs(book_cells_hold(book, (0, (AND, NOT), (((0,), (1,), (2,), (3,)), ((0, 1),)))), False)
        self.assertIs(book_cells_hold(book, (1, ((2, (0, 0, 0, 0)), (1, (0, 0))),
                                             (((0,), (1,), (2,), (3,)), ((0, 1),)))), False)
        self.assertIs(book_cells_hold(book, (1, (AND, (2, (0, 0))), (((0,), (1,), (2,), (3,)), ((0, 1),)))), False)
        # Many at most either sum: here rows of falls tell two, but one cell is enough for one place turned.
        book = (2, ((2, (1, 1, 0, 1)), NOT))
        self.assertEqual(self.sums(book[1]), (2, 1))
        rows = (((0, 2), (1,), (3,)), ((0, 1),))
        self.assertIs(book_cells_hold(book, (2, ((2, (1, 1, 1, 1)), (1, (1, 1))), rows)), False)
        self.assertIs(book_cells_hold(book, (1, ((2, (1, 1, 0, 0)), NOT), rows)), True)
        # Rows of one cell or more, each cell once, even if cells less rows would be enough.
        others = ((2, (1, 1, 0, 0)), NOT)
        for row in (((0, 2), (1,), (3,), ()), ((0, 2), (1,), (3,), (3,)), ((0, 2), (1,)), ((0, 2), (1, 3))):
            self.assertIs(book_cells_hold(book, (1, others, (row, rows[1]))), False)
        self.assertIs(book_cells_hold(book, (1, others, (((0,), (1,), (2,), (3,)), rows[1]))), True)
        self.assertIs(book_cells_hold((2, (NOT,)), (0, ((2, (1, 0, 0, 1)),), (((0, 1),),))), False)
        self.assertIs(book_cells_hold((2, (NOT,)), (0, (NOT,), (((0, 1),),))), True)

    def test_changed_papers(self):
        for operations in ((XOR, NOT), (SAME,)):
            book, paper = (2, operations), book_cells((2, operations))
            for other in changed(paper):
                self.assertIs(book_cells_hold(book, other), self.is_right(operations, other))
            for value in ANYTHING:
                self.assertIs(book_cells_hold(book, value), False)
                self.assertIs(book_cells_hold(book, (value,) + paper[1:]), self.is_right(operations, (value,) + paper[1:]))
                self.assertIs(book_cells_hold(book, (paper[0], value, paper[2])), False)
                self.assertIs(book_cells_hold(book, paper[:2] + (value,)), False)

    def is_right(self, operations, paper):
        try:
            many, others, rows = paper
            if has_lists(paper) or type(paper) is not tuple or type(many) is not int:
                return False
            if len(others) != len(operations) or len(rows) != len(operations):
                return False
            for operation, other, row in zip(operations, others, rows):
                places, answers = other
                if type(places) is not int or places != operation[0] or len(answers) != 2 ** places:
                    return False
                if not all(type(one) is int and one in (0, 1) for one in answers):
                    return False
                if not all(type(cell) is int and 0 <= cell < 2 ** places for part in row for cell in part):
                    return False
                if not are_fall_rows(2, operation, row):
                    return False
            let = not any(has_fall(2, other) for other in others) or all(
                other[1] in singles(other[0]) for other in others)
            cells = sum(len(operation[1]) - len(row) for operation, row in zip(operations, rows))
            return (let and sum(unlike(one[1], other[1]) for one, other in zip(operations, others)) == many
                    and cells >= many and many <= min(self.sums(operations)))
        except (TypeError, ValueError):
            return False

    def test_wrong_inputs(self):
        for function in (book_cells, lambda book: book_cells_hold(book, None)):
            for value in no_rows_of(2):
                self.fails_at(InvalidBook, -1, function, value)
            self.fails_at(InvalidBook, 1, function, (2, (AND, TURN)))
            self.fails_at(Refused, -1, function, (3, (LEAST, MOST)))
            self.fails_at(Refused, -1, function, (8, ()))
        self.assertEqual(book_cells((2, ())), (0, (), ()))
        self.same_in_lists(book_cells, (2, (XOR,)))


if __name__ == "__main__":
    unittest.main()
