"""[58], the part of `always`: just constants and places can be put into every book that is let."""

import itertools
import unittest

from foldsall.always import always_holds, always_paper
from foldsall.errors import InvalidOperation, InvalidProgram
from tests.helpers import (AND, ANYTHING, KEEP, LEAST, NOT, OR, TURN, XOR, Fails, all_operations, changed, has_lists,
                           rows_of)
from tests.test_lots import is_let, is_paper


def is_right(size, operation, paper):
    """By the words of the document."""
    places, answers = operation
    if not isinstance(paper, tuple) or has_lists(paper) or not paper:
        return False
    if paper[0] == "value":
        return len(paper) == 2 and type(paper[1]) is int and set(answers) == {paper[1]}
    if paper[0] == "place":
        return (len(paper) == 2 and type(paper[1]) is int and 0 <= paper[1] < places
                and answers == tuple(row[paper[1]] for row in rows_of(size, places)))
    if len(paper) != 4 or paper[0] != "not":
        return False
    _, operations, pairs, rows = paper
    if not isinstance(operations, tuple) or not 1 <= len(operations) <= 3:
        return False
    for one in operations:
        if not isinstance(one, tuple) or len(one) != 2 or type(one[0]) is not int or not 1 <= one[0] <= 3:
            return False
        if not isinstance(one[1], tuple) or len(one[1]) != size ** one[0]:
            return False
        if not all(type(value) is int and 0 <= value < size for value in one[1]):
            return False
    values = tuple(range(size))
    book, whole = (size, operations), (size, operations + (operation,))
    try:
        return (is_paper(book, tuple(range(len(operations))), values, ("let", pairs))
                and is_paper(whole, tuple(range(len(operations) + 1)), values, ("not", rows)))
    except (TypeError, IndexError, ValueError, InvalidProgram):
        return False


class AlwaysTest(Fails, unittest.TestCase):
    def look(self, size, operation):
        paper = always_paper(size, operation)
        self.assertFalse(has_lists(paper))
        self.assertTrue(is_right(size, operation, paper), (operation, paper))
        self.assertIs(always_holds(size, operation, paper), True)
        places, answers = operation
        if len(set(answers)) == 1:
            self.assertEqual(paper, ("value", answers[0]))
        elif any(answers == tuple(row[at] for row in rows_of(size, places)) for at in range(places)):
            self.assertEqual(paper[0], "place")
        else:
            self.assertEqual(paper[0], "not")
        return paper

    def test_told_papers(self):
        self.assertEqual(always_paper(2, (2, (1, 1, 1, 1))), ("value", 1))
        self.assertEqual(always_paper(3, (1, (0, 1, 2))), ("place", 0))
        self.assertEqual(always_paper(2, (3, (0, 0, 1, 1, 0, 0, 1, 1))), ("place", 1))
        self.assertEqual(self.look(2, AND)[1], ((1, (1, 0)),))
        self.assertEqual(self.look(3, TURN)[0], "not")

    def test_all_small_operations(self):
        for size, places in ((2, 1), (2, 2), (2, 3), (3, 1), (4, 1)):
            for operation in all_operations(size, places):
                self.look(size, operation)
        for operation in list(all_operations(3, 2))[::211]:
            self.look(3, operation)

    def test_greater_operations(self):
        for operation in ((2, tuple(min(row) for row in rows_of(4, 2))), (2, tuple(sum(row) % 4 for row in rows_of(4, 2))),
                          (2, tuple(row[0] if row[0] < 3 else row[1] for row in rows_of(4, 2)))):
            self.look(4, operation)
        for size in range(5, 9):
            self.look(size, (1, tuple(size - 1 - value for value in range(size))))
            self.look(size, (1, tuple(range(size))))
        self.look(5, (2, tuple(max(row) for row in rows_of(5, 2))))
        self.look(3, (3, tuple(max(row) for row in rows_of(3, 3))))

    def test_constants_and_places_fit_everywhere(self):
        for size in (2, 3):
            fitting = [(1, (at,) * size) for at in range(size)] + [(1, tuple(range(size)))]
            fitting += [(2, tuple(row[at] for row in rows_of(size, 2))) for at in (0, 1)]
            for one, other in itertools.product(all_operations(size, 1), fitting):
                book = (size, (one, (2, tuple(min(row) for row in rows_of(size, 2)))))
                if is_let(book, (0, 1), range(size)):
                    self.assertTrue(is_let((size, book[1] + (other,)), (0, 1, 2), range(size)))

    def test_any_papers(self):
        size, operation = 2, AND
        _, operations, pairs, rows = always_paper(size, operation)
        for other in (operations, operations * 2, operations * 3, ((1, (1, 1)),) + operations, (KEEP,) + operations):
            self.assertIs(always_holds(size, operation, ("not", other, pairs, self.moved(rows, len(other) - 1))), True)
        # One to three of them, though others would tell the same.
        self.assertIs(always_holds(size, operation, ("not", operations * 4, pairs, self.moved(rows, 3))), False)
        merging = ((0, 1, (((0, 1),), (("of", 0, (0, 0)),), (1,))),)
        self.assertIs(always_holds(2, XOR, ("not", (KEEP,), pairs, self.moved(merging, 1))), True)
        self.assertIs(always_holds(2, XOR, ("not", (), pairs, merging)), False)
        self.assertIs(always_holds(size, operation, ("not", (), pairs, rows)), False)
        self.assertIs(always_holds(size, operation, ("not", operations * 4, pairs, rows)), False)
        self.assertIs(always_holds(size, operation, ("not", operations, ((1, 0),), rows)), False)
        self.assertIs(always_holds(size, operation, ("not", operations, ((0, 1), (1, 0)), rows)), True)
        self.assertIs(always_holds(size, operation, ("not", operations, pairs, ())), False)
        # Operations that are not let themselves.
        self.assertIs(always_holds(size, operation, ("not", (XOR,), pairs, rows)), False)

    def moved(self, rows, step):
        """Rows of stories, all operations so many numbers on."""
        return tuple((one, two, (program[0], tuple(
            (row[0], row[1] + step, row[2]) if row[0] == "of" else row for row in program[1]), program[2]))
            for one, two, program in rows)

    def test_constants_and_places_alone(self):
        for operation, word, at in (((1, (1, 1)), "value", 1), (KEEP, "place", 0), ((2, (0, 1, 0, 1)), "place", 1)):
            for other in ANYTHING + (2, 3):
                for told in ("value", "place", "not", "valu"):
                    self.assertIs(always_holds(2, operation, (told, other)), told == word and type(other) is int
                                  and other == at)
        for operation in (AND, OR, NOT, XOR):
            for told in itertools.product(("value", "place"), range(3)):
                self.assertIs(always_holds(2, operation, told), False)

    def test_changed_papers(self):
        for size, operation in ((2, AND), (2, NOT), (2, KEEP), (3, (1, (0, 0, 1)))):
            paper = always_paper(size, operation)
            for value in itertools.chain(changed(paper), ANYTHING, (paper[0], (paper[0],), paper + ((),))):
                told = always_holds(size, operation, value)
                self.assertIs(type(told), bool)
                self.assertEqual(told, is_right(size, operation, value), value)

    def test_wrong_inputs(self):
        for size in [value for value in ANYTHING + (9, 1) if type(value) is not int or not 2 <= value <= 8]:
            self.fails_size("size", always_paper, size, None)
            self.fails_size("size", always_holds, size, None, None)
        for value in ANYTHING:
            self.fails_at(InvalidOperation, -1, always_paper, 2, value)
            self.fails_at(InvalidOperation, -1, always_holds, 2, value, None)
        self.fails_at(InvalidOperation, -1, always_paper, 3, AND)
        self.fails_at(InvalidOperation, -1, always_paper, 2, (1, (0, True)))
        self.same_in_lists(always_paper, 3, LEAST)
        paper = always_paper(2, AND)
        self.assertIs(always_holds(value=paper, operation=[2, [0, 0, 0, 1]], size=2), True)


if __name__ == "__main__":
    unittest.main()
