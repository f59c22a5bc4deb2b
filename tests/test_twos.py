"""[35], [36]: kinds of operations of yes and no, what programs over them write, and what folding misses."""

import itertools
import random
import unittest

from foldsall.errors import InvalidBook, InvalidIndex, InvalidKind, InvalidTable, Refused
from foldsall.folding import folded_values, kept_sets
from foldsall.programs import is_straight, need_program
from foldsall.runs import shown_values
from foldsall.twos import (book_kind, has_kind, missed_holds, missed_program, missed_rows, place_way, program_writes,
                           written_program)
from tests.helpers import (AND, ANYTHING, KEEP, NOT, OR, SAME, XOR, Fails, Writer, all_operations, answer, changed, has_lists,
                           in_lists, no_rows_of, no_values, rows_of)

KINDS = ("wires", "nots", "ands", "ors", "rising", "sums", "all")
SMALL = all_operations(2, 1) + all_operations(2, 2)
MANY = (3, (0, 0, 0, 1, 0, 1, 1, 1))
BOOK = (2, (AND, NOT))


def column(places, place):
    return tuple(row[place] for row in rows_of(2, places))


def turned(answers):
    return tuple(1 - one for one in answers)


def all_of_kind(kind, places):
    """All answers of a kind, by the document's words."""
    rows = rows_of(2, places)
    lots = [lot for length in range(places + 1) for lot in itertools.combinations(range(places), length)]
    alike = {(0,) * len(rows), (1,) * len(rows)}
    columns = {column(places, place) for place in range(places)}
    if kind == "wires":
        return alike | columns
    if kind == "nots":
        return alike | columns | {turned(one) for one in columns}
    if kind == "ands":
        return alike | {tuple(int(all(row[at] for at in lot)) for row in rows) for lot in lots if lot}
    if kind == "ors":
        return alike | {tuple(int(any(row[at] for at in lot)) for row in rows) for lot in lots if lot}
    if kind == "sums":
        odd = {tuple(sum(row[at] for at in lot) % 2 for row in rows) for lot in lots}
        return odd | {turned(one) for one in odd}
    every = set(itertools.product((0, 1), repeat=len(rows)))
    if kind == "all":
        return every
    return {answers for answers in every
            if all(answers[one] <= answers[two] for one, low in enumerate(rows) for two, high in enumerate(rows)
                   if all(a <= b for a, b in zip(low, high)))}


def brute_kind(book):
    return next(kind for kind in KINDS if all(one[1] in all_of_kind(kind, one[0]) for one in book[1]))


def small_books():
    yield from ((2, ()), (2, (AND, AND)), (2, (XOR, XOR, NOT, NOT)), (2, (KEEP,) * 8))
    for operation in SMALL:
        yield (2, (operation,))
    for pair in itertools.combinations(SMALL, 2):
        yield (2, pair)


def some_books(many=60):
    dice = random.Random(5)
    threes = all_operations(2, 3)
    for _ in range(many):
        yield (2, tuple(dice.choice(dice.choice((SMALL, threes))) for _ in range(dice.randrange(1, 4))))
    for operation in dice.sample(threes, many) + [MANY, (3, turned(MANY[1])), (3, (0, 1, 1, 0, 1, 0, 0, 1))]:
        yield (2, (operation,))


def told_answers(book, program):
    """The values of the end in all runs, by a plain reckoning."""
    found = []
    for values in rows_of(2, len(program[0])):
        known = list(values)
        for row in program[1]:
            known.append(row[1] if row[0] == "told" else answer(2, book[1][row[1]], [known[read] for read in row[2]]))
        found.append(known[program[2][0]])
    return tuple(found)


def is_program(book, value):
    try:
        return (need_program(book, value) == value and is_straight(book, value) and len(value[2]) == 1
                and all(values == (0, 1) for values in value[0]))
    except Exception:
        return False


def does_write(book, answers, value):
    if value is None:
        return answers not in all_of_kind(brute_kind(book), len(answers).bit_length() - 1)
    return is_program(book, value) and told_answers(book, value) == answers


def does_miss(book, value):
    """By the words of the document, of any value."""
    if value is None:
        return brute_kind(book) in KINDS[:5]
    return (is_program(book, value) and len(set(told_answers(book, value))) == 1
            and folded_values(book, value)[value[2][0]] is None)


def fewest_missed(book, most):
    """The fewest rows of operations of a program that is constant and open, going through all of one input or two."""
    found = []
    for inputs in (1, 2):
        states = {(column(inputs, place), True) for place in range(inputs)}
        states |= {((value,) * 2 ** inputs, False) for value in (0, 1)}
        layers = [frozenset(states)]
        for many in range(1, most + 1):
            nexts = set()
            for known in layers:
                for places, answers in book[1]:
                    for reads in itertools.product(sorted(known), repeat=places):
                        row = tuple(answer(2, (places, answers), values) for values in zip(*[read[0] for read in reads]))
                        free = [(0, 1) if is_open else (row_values[0],) for row_values, is_open in reads]
                        made = {answer(2, (places, answers), values) for values in itertools.product(*free)}
                        if len(made) == 2 and len(set(row)) == 1:
                            found.append(many)
                        if (row, len(made) == 2) not in known:
                            nexts.add(known | {(row, len(made) == 2)})
            layers = nexts
    return min(found, default=0)


class KindsTest(Fails, unittest.TestCase):
    def test_ways(self):
        for places in (1, 2, 3):
            for answers in itertools.product((0, 1), repeat=2 ** places):
                for place in range(places):
                    rises = falls = False
                    for row in rows_of(2, places):
                        if row[place] == 0:
                            low = answer(2, (places, answers), row)
                            high = answer(2, (places, answers), row[:place] + (1,) + row[place + 1:])
                            rises, falls = rises or low < high, falls or high < low
                    told = {(False, False): "level", (True, False): "rises", (False, True): "falls", (True, True): "both"}
                    self.assertEqual(place_way(answers, place), told[rises, falls])
        self.assertEqual([place_way((0,) * 8 + (0, 1, 0, 1, 1, 0, 1, 0), at) for at in range(4)],
                         ["rises", "both", "level", "both"])

    def test_kinds(self):
        for places in (1, 2, 3):
            for kind in KINDS:
                told = all_of_kind(kind, places)
                for answers in itertools.product((0, 1), repeat=2 ** places):
                    self.assertIs(has_kind(kind, answers), answers in told)

    def test_kinds_of_four_places(self):
        dice = random.Random(7)
        others = [tuple(dice.randrange(2) for _ in range(16)) for _ in range(300)]
        told = {kind: all_of_kind(kind, 4) for kind in KINDS if kind not in ("all", "rising")}
        some = sorted(set().union(*told.values())) + others
        for kind in told:
            for answers in some:
                self.assertIs(has_kind(kind, answers), answers in told[kind])
        self.assertTrue(all(has_kind("all", answers) for answers in some))
        rows = rows_of(2, 4)
        for answers in some + [tuple(int(sum(row) > most) for row in rows) for most in range(4)]:
            rises = all(low[1] <= high[1] for low in zip(rows, answers) for high in zip(rows, answers)
                        if all(a <= b for a, b in zip(low[0], high[0])))
            self.assertIs(has_kind("rising", answers), rises)

    def test_book_kinds(self):
        for book in itertools.chain(small_books(), some_books()):
            self.assertEqual(book_kind(book), brute_kind(book))
        self.assertEqual([book_kind((2, book)) for book in ((), (KEEP,), (NOT, KEEP), (AND, KEEP), (OR,), (AND, OR), (XOR, NOT),
                                                            (SAME,), (AND, NOT), (MANY,), (MANY, NOT))],
                         ["wires", "wires", "nots", "ands", "ors", "rising", "sums", "sums", "all", "rising", "all"])

    def test_wrong_inputs(self):
        wrong = [value for value in ANYTHING if not (isinstance(value, tuple) and len(value) in (2, 4, 8, 16))]
        wrong += [(0, 1, 0), (0,), (0,) * 32, (0, 2), (0, True), (0, None), [0, 1], (0, [1]), "01", (0,) * 15 + (2,), (-1, 0)]
        for value in wrong:
            self.fails_at(InvalidTable, -1, place_way, value, None)
            self.fails_at(InvalidTable, -1, has_kind, "all", value)
            self.fails_at(InvalidTable, -1, written_program, BOOK, value)
            self.fails_at(InvalidTable, -1, program_writes, BOOK, value, None)
        for value in no_values(2):
            self.fails_at(InvalidIndex, 1, place_way, (0, 1, 1, 0), value)
        for value in ANYTHING + ("Wires", "none", ["all"], ("all",)):
            self.fails(InvalidKind, {}, has_kind, value, None)
        functions = (book_kind, lambda book: written_program(book, None), lambda book: program_writes(book, None, None),
                     missed_rows, missed_program, lambda book: missed_holds(book, None))
        for function in functions:
            for value in no_rows_of(2):
                self.fails_at(InvalidBook, -1, function, value)
            self.fails_at(InvalidBook, 1, function, (2, (AND, (1, (0, 2)))))
            self.fails_at(InvalidBook, 0, function, (3, (AND,)))
            for size in range(3, 9):
                self.fails_at(Refused, -1, function, (size, ()))

    def test_lists_and_names(self):
        self.assertEqual(place_way(place=1, answers=(0, 1, 1, 0)), "both")
        self.assertIs(has_kind(answers=(0, 1), kind="wires"), True)
        for function in (book_kind, missed_rows, missed_program):
            self.same_in_lists(function, BOOK)
        told = written_program(answers=(0, 1, 1, 0), book=in_lists(BOOK))
        self.assertEqual(told, written_program(BOOK, (0, 1, 1, 0)))
        self.assertIs(program_writes(value=told, answers=(0, 1, 1, 0), book=in_lists(BOOK)), True)
        self.assertIs(missed_holds(value=missed_program(BOOK), book=in_lists(BOOK)), True)


class WritingTest(Fails, unittest.TestCase):
    def test_written(self):
        wanted = [answers for places in (1, 2) for answers in itertools.product((0, 1), repeat=2 ** places)]
        for book in itertools.chain(small_books(), some_books(12)):
            kind = brute_kind(book)
            for answers in wanted:
                self.look_at(book, kind, answers)

    def look_at(self, book, kind, answers):
        program = written_program(book, answers)
        self.assertIs(program_writes(book, answers, program), True)
        self.assertEqual(program is None, not has_kind(kind, answers))
        if program is not None:
            self.assertFalse(has_lists(program))
            self.assertTrue(does_write(book, answers, program))
            self.assertEqual(len(program[0]), len(answers).bit_length() - 1)
            self.assertIs(program_writes(book, answers, None), False)

    def test_written_of_more_places(self):
        dice = random.Random(3)
        books = [(2, book) for book in ((), (NOT,), (AND,), (OR,), (AND, OR), (MANY,), (XOR,), (SAME,), (AND, NOT), (MANY, NOT),
                                        ((2, (1, 1, 1, 0)),), ((2, (0, 0, 1, 0)),), (SAME, OR), ((3, (0, 1, 1, 0, 1, 0, 0, 1)),))]
        for book in books:
            kind = book_kind(book)
            for places in (3, 4):
                some = [tuple(dice.randrange(2) for _ in range(2 ** places)) for _ in range(12)]
                if kind != "rising" and kind != "all":
                    some += sorted(all_of_kind(kind, places))
                rows = rows_of(2, places)
                some += [tuple(int(sum(row) > most) for row in rows) for most in range(places)]
                some += [tuple(int((row[0] and row[1]) or row[2]) for row in rows), tuple(row[1] for row in rows)]
                for answers in some:
                    self.look_at(book, kind, answers)

    def test_nothing_else_is_written(self):
        """What is put together of answers of one kind is of it: nothing else can be written, going through all."""
        for book in small_books():
            for places in (1, 2):
                found = {column(places, place) for place in range(places)} | {(value,) * 2 ** places for value in (0, 1)}
                many = 0
                while many < len(found):
                    many = len(found)
                    for operation in book[1]:
                        for reads in itertools.product(sorted(found), repeat=operation[0]):
                            found.add(tuple(answer(2, operation, row) for row in zip(*reads)))
                self.assertEqual(found, all_of_kind(brute_kind(book), places))

    def test_any_program(self):
        program = (((0, 1),) * 2, (("of", 0, (0, 1)), ("of", 1, (2,)), ("told", 1), ("of", 1, (3,))), (5,))
        self.assertIs(program_writes(BOOK, AND[1], program), True)
        self.assertIs(program_writes(BOOK, (1, 1, 1, 0), program[:2] + ((3,),)), True)
        self.assertIs(program_writes(BOOK, (1, 1, 1, 1), program[:2] + ((4,),)), True)
        self.assertIs(program_writes(BOOK, (0, 0, 1, 1), program[:2] + ((0,),)), True)
        self.assertIs(program_writes(BOOK, AND[1], program[:2] + ((5, 5),)), False)
        self.assertIs(program_writes(BOOK, AND[1], program[:2] + ((),)), False)
        self.assertIs(program_writes(BOOK, AND[1], (((0, 1), (1,)),) + program[1:]), False)
        self.assertIs(program_writes(BOOK, (0, 0, 0, 0, 0, 0, 1, 1), program), False)
        wider = (((0, 1),) * 3,) + ((("of", 0, (0, 1)),), (3,))
        self.assertIs(program_writes(BOOK, (0, 0, 0, 0, 0, 0, 1, 1), wider), True)
        self.assertIs(program_writes(BOOK, AND[1], wider), False)
        forked = (((0, 1),) * 2, (("of", 0, (0, 1)), ("fork", None, (), (), ())), (2,))
        self.assertIs(program_writes(BOOK, AND[1], forked), False)

    def test_changed_programs(self):
        for book, answers in ((BOOK, (0, 1, 1, 0)), ((2, (AND,)), AND[1]), ((2, (XOR,)), (1, 0)), ((2, ()), (1, 1)),
                              ((2, (NOT,)), AND[1]), ((2, (OR,)), (0, 1, 1, 1, 1, 1, 1, 1))):
            program = written_program(book, answers)
            for value in itertools.chain(() if program is None else changed(program), ANYTHING):
                told = program_writes(book, answers, value)
                self.assertIs(type(told), bool)
                self.assertEqual(told, does_write(book, answers, value), value)


class MissedTest(Fails, unittest.TestCase):
    def test_missed(self):
        for book in itertools.chain(small_books(), some_books()):
            program, kind = missed_program(book), brute_kind(book)
            self.assertIs(missed_holds(book, program), True)
            self.assertEqual(program is None, kind in KINDS[:5])
            self.assertEqual(missed_rows(book), 0 if program is None else sum(row[0] == "of" for row in program[1]))
            self.assertEqual(missed_rows(book) == 0, program is None)
            if program is not None:
                self.assertFalse(has_lists(program))
                self.assertTrue(does_miss(book, program))
                self.assertIs(missed_holds(book, None), False)
                self.assertEqual(missed_rows(book) == 1, self.is_one_enough(book))
                self.assertLessEqual(missed_rows(book), 2)

    def is_one_enough(self, book):
        """By the words of the document."""
        for places, answers in book[1]:
            for held in itertools.product((None, 0, 1), repeat=places):
                free = [[value] if value is not None else [0, 1] for value in held]
                made = [answer(2, (places, answers), row) for row in itertools.product(*free)]
                if len(set(made)) == 2 and made[0] == made[-1]:
                    return True
        return False

    def test_the_fewest(self):
        for book in small_books():
            if len(book[1]) < 2 or book_kind(book) in KINDS[:5]:
                self.assertEqual(missed_rows(book), fewest_missed(book, 2))
        for operations in ((AND, NOT), (NOT, OR), ((3, (0, 0, 0, 0, 1, 0, 1, 1)),), ((3, (0, 1, 0, 1, 0, 0, 0, 1)), AND)):
            self.assertEqual(missed_rows((2, operations)), fewest_missed((2, operations), 2))
        self.assertEqual((missed_rows((2, (AND, NOT))), missed_rows((2, (XOR,)))), (2, 1))

    def test_what_holds(self):
        """Of the five kinds kept sets are what is shown; two runs show each register that is not constant."""
        for seed, book in enumerate(itertools.islice(itertools.cycle(
                [(2, book) for book in ((), (NOT, KEEP), (AND,), (OR,), (AND, OR), (MANY, AND))]), 120)):
            program = Writer(book, seed, True).program(3, 6)
            self.assertEqual(kept_sets(book, program), shown_values(book, program))
            whole = (((0, 1),) * 3,) + program[1:]
            found = [told_ends(book, whole, (value,) * 3) for value in (0, 1)]
            for number, values in enumerate(shown_values(book, whole)):
                self.assertEqual(len(values) > 1, found[0][number] != found[1][number])

    def test_any_program(self):
        longer = (((0, 1),) * 2, (("of", 1, (0,)), ("of", 1, (2,)), ("of", 0, (2, 3)), ("of", 0, (4, 1))), (5,))
        self.assertIs(missed_holds(BOOK, longer), True)
        self.assertIs(missed_holds(BOOK, longer[:2] + ((4,),)), True)
        self.assertIs(missed_holds(BOOK, longer[:2] + ((3,),)), False)
        self.assertIs(missed_holds(BOOK, longer[:2] + ((4, 5),)), False)
        self.assertIs(missed_holds(BOOK, longer[:2] + ((),)), False)
        self.assertIs(missed_holds(BOOK, (((0, 1), (0,)),) + longer[1:]), False)
        told = (((0, 1),), (("told", 0), ("of", 0, (0, 1))), (2,))
        self.assertIs(missed_holds(BOOK, told), False)
        forked = (((0, 1),), (("of", 1, (0,)), ("of", 0, (0, 1)), ("fork", None, (), (), ())), (2,))
        self.assertIs(missed_holds(BOOK, forked), False)
        self.assertIs(missed_holds((2, (AND,)), (((0, 1),), (("of", 0, (0, 0)),), (1,))), False)
        self.assertIs(missed_holds((2, (AND, OR)), None), True)
        self.assertIs(missed_holds((2, (XOR,)), None), False)

    def test_changed_programs(self):
        for book in (BOOK, (2, (XOR,)), (2, (AND,)), (2, (SAME, OR))):
            program = missed_program(book)
            for value in itertools.chain(() if program is None else changed(program), ANYTHING):
                told = missed_holds(book, value)
                self.assertIs(type(told), bool)
                self.assertEqual(told, does_miss(book, value), value)


def told_ends(book, program, values):
    known = list(values)
    for row in program[1]:
        known.append(row[1] if row[0] == "told" else answer(2, book[1][row[1]], [known[read] for read in row[2]]))
    return known


if __name__ == "__main__":
    unittest.main()
