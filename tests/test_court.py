"""[18], [19], [20]: the court of arrows, least ranges, lists of inputs."""

import itertools
import unittest

from foldsall.arrows import are_arrows, least_arrows, sure_pairs
from foldsall.court import court_holds, court_paper, least_ranges, lists_grade, range_program
from foldsall.errors import InvalidBook, Refused
from foldsall.folding import folded_values
from foldsall.programs import is_straight, need_program
from tests.helpers import (AND, ANYTHING, KEEP, LEAST, MOST, NOT, OR, SAME, TURN, XOR, Fails, Run, all_operations,
                           answer, changed, has_lists, no_rows_of)
from tests.test_arrows import held_operations, small_books
from tests.test_tables import brute_hung


def open_rows(book):
    """The values, input by input, of all open registers of programs with one input."""
    rows = {tuple(range(book[0]))}
    while True:
        led = {tuple(table[values] for values in zip(*lot)) for many, table in held_operations(book)
               for lot in itertools.product(rows, repeat=many)}
        if led <= rows:
            return rows
        rows |= led


def end_row(book, program):
    return tuple(Run(book, program, (value,), [], 0).ends[0] for value in range(book[0]))


def is_story(book, program):
    """By the words of the document: one input of all values, straight, one end, open."""
    need_program(book, program)
    return (program[0] == (tuple(range(book[0])),) and len(program[2]) == 1 and is_straight(book, program)
            and folded_values(book, program)[program[2][0]] is None)


def brute_grade(book):
    size = book[0]
    tables = [(brute_hung(size, operation), operation) for operation in book[1]]
    if all(not hung or (len(hung) == 1 and len(set(operation[1])) == size) for hung, operation in tables):
        return 3
    many = len(sure_pairs(book))
    return 2 if many == size * (size - 1) else 1 if many else 0


class CourtTest(Fails, unittest.TestCase):
    def test_least_arrows_are_what_ends_of_open_stories_have(self):
        for book in small_books():
            rows = open_rows(book)
            for one, other in itertools.product(range(book[0]), repeat=2):
                self.assertEqual(least_arrows(book, one, other),
                                 tuple(sorted({(row[one], row[other]) for row in rows})))

    def test_papers(self):
        words = {"arrows": 0, "story": 0}
        for book in small_books():
            paper = court_paper(book)
            self.assertFalse(has_lists(paper))
            self.assertIs(court_holds(book, paper), True)
            words[paper[0]] += 1
            self.assertEqual(paper[0] == "story", any(len(set(row)) == 1 for row in open_rows(book)))
            if paper[0] == "arrows":
                self.assertTrue(are_arrows(book, paper[1]))
            else:
                self.assertTrue(is_story(book, paper[1]))
                self.assertEqual(len(set(end_row(book, paper[1]))), 1)
        self.assertTrue(all(many > 30 for many in words.values()))

    def test_told_examples(self):
        self.assertEqual([court_paper((3, lot))[0] for lot in ((LEAST,), (MOST,), (LEAST, MOST))],
                         ["arrows", "arrows", "story"])
        unlike = (2, (XOR,))
        self.assertEqual((sure_pairs((2, (AND,))), court_paper((2, (AND,)))[0], lists_grade((2, (AND,)))),
                         (((0, 1), (1, 0)), "arrows", 2))
        self.assertEqual((court_paper(unlike)[0], least_ranges(unlike)), ("story", ((0,), (1,))))
        self.assertEqual(court_paper((2, ()))[0], "arrows")

    def test_stories_are_of_any_form(self):
        book = (2, (XOR, NOT))
        all_values = ((0, 1),)
        for rows, end, right in (
                ((("of", 0, (0, 0)),), 1, True),
                ((("of", 1, (0,)), ("of", 0, (0, 1))), 2, True),
                ((("told", 0), ("of", 0, (0, 0)), ("told", 1)), 2, True),
                ((("told", 0), ("of", 0, (0, 0)), ("told", 1)), 1, False),
                ((("of", 0, (0, 0)),), 0, False),
                ((("of", 1, (0,)),), 1, False),
                ((("fork", None, (), (), ()), ("of", 0, (0, 0))), 1, False),
                ((("loop", 0, (0,), (), (0,)), ("of", 0, (0, 0))), 2, False)):
            self.assertIs(court_holds(book, ("story", (all_values, rows, (end,)))), right)
        rows = (("of", 0, (0, 0)),)
        self.assertIs(court_holds(book, ("story", (((0,),), rows, (1,)))), False)
        self.assertIs(court_holds(book, ("story", (((0, 1), (0, 1)), (("of", 0, (0, 0)),), (2,)))), False)
        self.assertIs(court_holds(book, ("story", (all_values, rows, (1, 1)))), False)
        self.assertIs(court_holds(book, ("story", (all_values, rows, ()))), False)
        self.assertIs(court_holds(book, ("story", (((False, True),), rows, (1,)))), False)
        self.assertIs(court_holds((2, (AND, NOT)), ("story", (all_values, (("told", 0), ("of", 0, (0, 1))), (2,)))), False)

    def test_changed_papers(self):
        for book in ((2, (AND, NOT)), (3, (LEAST, MOST)), (2, (NOT,)), (3, (LEAST,))):
            paper = court_paper(book)
            for value in changed(paper):
                right = False
                if isinstance(value, tuple) and len(value) == 2 and not has_lists(value):
                    try:
                        if value[0] == "arrows":
                            right = are_arrows(book, value[1])
                        elif value[0] == "story":
                            right = is_story(book, value[1]) and len(set(end_row(book, value[1]))) == 1
                    except Exception as error:
                        self.assertEqual(type(error).__module__, "foldsall.errors")
                self.assertIs(court_holds(book, value), right)
            for value in ANYTHING:
                self.assertIs(court_holds(book, value), False)
                for word in ("arrows", "story"):
                    self.assertIs(court_holds(book, (word, value)), False)
        self.assertIs(court_holds((2, (NOT,)), ("arrows", ((0, 1), (1, 0)))), True)
        self.assertIs(court_holds((2, (AND,)), ("arrows", ((1, 0),))), True)
        self.assertIs(court_holds((2, (AND,)), ["arrows", ((1, 0),)]), False)

    def test_arrows_tell_all_constants(self):
        """Behind arrows each register of one value in all runs is folded, and the two runs of a sure pair tell it."""
        for book in list(small_books())[::9]:
            pairs = sure_pairs(book)
            programs = [(((tuple(range(book[0])),) * 2), rows, ()) for rows in self.all_rows(book)]
            missed = False
            for program in programs:
                runs = [Run(book, program, values, [], 0).trace
                        for values in itertools.product(range(book[0]), repeat=2)]
                for number, fold in enumerate(folded_values(book, program)):
                    shown = {run[number][0] for run in runs}
                    missed = missed or (fold is None and len(shown) == 1)
                    for one, other in pairs:
                        told = {Run(book, program, (value, value), [], 0).trace[number][0] for value in (one, other)}
                        self.assertEqual(len(told) == 1, fold is not None)
            if pairs:
                self.assertFalse(missed)

    def all_rows(self, book):
        lines = [("told", 0), ("told", 1)]
        for number, operation in enumerate(book[1]):
            lines.extend(("of", number, reads) for reads in itertools.product(range(3), repeat=operation[0]))
        return [(("told", 1), one) for one in lines[2:]]


class RangesTest(Fails, unittest.TestCase):
    def test_ranges(self):
        for book in small_books():
            ranges = {tuple(sorted(set(row))) for row in open_rows(book)}
            fewest = min(len(lot) for lot in ranges)
            least = tuple(sorted(lot for lot in ranges if len(lot) == fewest))
            self.assertEqual(least_ranges(book), least)
            for lot in least:
                program = range_program(book, list(lot))
                self.assertTrue(is_story(book, program))
                row = end_row(book, program)
                self.assertEqual(tuple(sorted(set(row))), lot)
                self.assertTrue(all(row[value] == value for value in lot))

    def test_what_holds_of_ranges(self):
        for book in small_books():
            rows, least = open_rows(book), least_ranges(book)
            for lot in least:
                led = {tuple(row[value] for value in lot) for row in rows}
                # Unlike values to unlike ones, onto a least range, and onto each.
                self.assertTrue(all(len(set(row)) == len(lot) for row in led))
                self.assertEqual({tuple(sorted(row)) for row in led}, set(least))
            narrow = [row for row in rows if tuple(sorted(set(row))) in least]
            for one, other in itertools.permutations(range(book[0]), 2):
                apart = all(row[one] != row[other] for row in narrow)
                self.assertEqual((one, other) in sure_pairs(book), apart)
                self.assertEqual(apart, all(row[one] != row[other] for row in rows))

    def test_more_values(self):
        turn, down = (1, (1, 2, 3, 4, 0)), (1, (0, 1, 2, 3, 0))
        self.assertEqual(least_ranges((5, (turn, down))), ((0,), (1,), (2,), (3,), (4,)))
        self.assertEqual(least_ranges((5, (turn,))), ((0, 1, 2, 3, 4),))
        self.assertEqual(range_program((5, (turn,)), (0, 1, 2, 3, 4)), ((tuple(range(5)),), (), (0,)))
        self.assertEqual(least_ranges((4, ((1, (0, 0, 2, 2)), (1, (1, 0, 3, 2))))), ((0, 2), (1, 3)))

    def test_refused(self):
        book = (3, (LEAST, MOST))
        self.assertEqual(least_ranges(book), ((1,),))
        for value in list(ANYTHING) + [(3,), (0,), (0, 1), [1, 1], (True,), ((1,),), "1", ("1",), (-1,), 1]:
            self.fails_at(Refused, -1, range_program, book, value)
        self.fails_at(Refused, -1, range_program, (2, (NOT,)), (1, 0))
        self.fails_at(Refused, -1, range_program, (2, (NOT,)), (0, True))

    def test_wrong_books(self):
        for value in no_rows_of(2):
            for function in (court_paper, least_ranges, lists_grade):
                self.fails_at(InvalidBook, -1, function, value)
            self.fails_at(InvalidBook, -1, court_holds, value, None)
            self.fails_at(InvalidBook, -1, range_program, value, None)
        self.fails_at(InvalidBook, 1, court_paper, (3, (LEAST, NOT)))

    def test_names_and_lists(self):
        for function in (court_paper, least_ranges, lists_grade):
            self.same_in_lists(function, (3, (LEAST, TURN)))
        self.same_in_lists(range_program, (3, (LEAST, MOST)), (1,))
        self.assertIs(court_holds([2, [[1, [1, 0]]]], ("arrows", ((0, 1), (1, 0)))), True)


class GradeTest(unittest.TestCase):
    def test_grades(self):
        found = set()
        for book in small_books():
            self.assertEqual(lists_grade(book), brute_grade(book))
            found.add(lists_grade(book))
        self.assertEqual(found, {0, 1, 2, 3})
        self.assertEqual(lists_grade((3, ())), 3)
        self.assertEqual(lists_grade((3, (TURN, (2, (2,) * 9), (2, (0, 0, 0, 2, 2, 2, 1, 1, 1))))), 3)
        self.assertEqual([lists_grade((2, lot)) for lot in ((AND, OR), (NOT, KEEP), (XOR,), (SAME, AND))], [2, 3, 0, 0])

    def test_two_never_is_with_three_values(self):
        for operation in all_operations(3, 1):
            self.assertNotEqual(lists_grade((3, (operation,))), 2)
        for answers in itertools.islice(itertools.product(range(3), repeat=9), 0, None, 41):
            self.assertNotEqual(lists_grade((3, ((2, answers),))), 2)

    def test_lists_of_two_values(self):
        """From 2 on nothing is missed, whatever lists inputs have; else here something is, in some small program."""
        for book in [(2, (operation,)) for operation in all_operations(2, 2)] + [(3, (one,)) for one in
                                                                                all_operations(3, 1)]:
            missed = False
            size = book[0]
            lists = [lot for many in range(2, size + 1) for lot in itertools.combinations(range(size), many)]
            lines = [("of", 0, reads) for reads in itertools.product(range(3), repeat=book[1][0][0])]
            for values, one in itertools.product(lists, lines):
                for other in [("of", 0, reads) for reads in itertools.product(range(4), repeat=book[1][0][0])]:
                    program = ((values, values), (("told", 1), one, other), ())
                    runs = [Run(book, program, row, [], 0).trace for row in itertools.product(values, repeat=2)]
                    for number, fold in enumerate(folded_values(book, program)):
                        if fold is None and len({run[number][0] for run in runs}) == 1:
                            missed = True
            self.assertIs(missed, lists_grade(book) < 2)


if __name__ == "__main__":
    unittest.main()
