"""[46], [47]: kept sets split into cases, and grounded rows."""

import itertools
import random
import unittest

from foldsall.errors import InvalidBook, InvalidIndex, InvalidLot, InvalidProgram, Refused
from foldsall.folding import kept_sets
from foldsall.missed import grounded_row, is_grounded, missed_values, split_cases, split_sets
from foldsall.programs import register_count, register_sources
from foldsall.runs import shown_values
from tests.helpers import (AND, ANYTHING, LEAST, NOT, TURN, XOR, Fails, Writer, answer, changed, has_lists, in_lists,
                           no_rows_of, no_sequences, no_values)
from tests.test_programs import BOOK, random_programs

NEVER = (((0, 1), (0, 1)), (("of", 1, (0,)), ("of", 0, (0, 2)), ("of", 0, (1, 3))), (4,))
FORKED = (((0, 1),), (("fork", None, (), (), ()),), (0,))
LOOPED = (((0, 1),), (("loop", 0, (0,), (), (0,)),), (0,))


def told(book, source, kept):
    """What kept sets tell of a register, by what is kept of those ahead."""
    if source[0] == "list":
        return set(source[1])
    if source[0] == "told":
        return {source[1]}
    return {answer(book[0], book[1][source[1]], row) for row in itertools.product(*[kept[read] for read in source[2]])}


def brute_cases(book, program, lot):
    """All possible cases, each with what is kept: by trying all values of the lot's registers."""
    sources, found = register_sources(book, program), []
    for case in itertools.product(range(book[0]), repeat=len(lot)):
        kept = []
        for number, source in enumerate(sources):
            values = told(book, source, kept)
            if number in lot:
                if case[list(lot).index(number)] not in values:
                    break
                values = {case[list(lot).index(number)]}
            kept.append(tuple(sorted(values)))
        else:
            found.append((case, tuple(kept)))
    return found


def is_right(book, program, lot, number, value, row):
    """By the words of the document, of any row."""
    sources = register_sources(book, program)
    if not isinstance(row, tuple) or has_lists(row) or len(row) != len(sources):
        return False
    for values in row:
        if not isinstance(values, tuple) or not values or not all(type(one) is int for one in values):
            return False
        if list(values) != sorted(set(values)):
            return False
    return (all(set(values) <= told(book, source, row) for values, source in zip(row, sources))
            and value in row[number] and all(len(row[at]) == 1 for at in lot))


def straight_programs(many):
    for at, (book, program) in enumerate(random_programs(many, True)):
        if register_count(book, program) <= 7:
            yield book, program, random.Random(at)


def some_lots(dice, many, all_of_them=False):
    lots = [lot for length in range(many + 1) for lot in itertools.combinations(range(many), length)]
    return lots if all_of_them else dice.sample(lots, min(len(lots), 8))


class SplitsTest(Fails, unittest.TestCase):
    def test_told_splits(self):
        self.assertEqual(split_cases(BOOK, NEVER, ()), ((),))
        self.assertEqual(split_cases(BOOK, NEVER, [0]), ((0,), (1,)))
        self.assertEqual(split_cases(BOOK, NEVER, (2, 3)), ((0, 0), (1, 0), (1, 1)))
        self.assertEqual(split_sets(BOOK, NEVER, ()), ((0, 1),) * 5)
        self.assertEqual(split_sets(BOOK, NEVER, (0,)), ((0, 1), (0, 1), (0, 1), (0,), (0,)))
        self.assertEqual(missed_values(BOOK, NEVER, ()), ((3, 1), (4, 1)))
        self.assertEqual(missed_values(BOOK, NEVER, (1, 4)), ((3, 1), (4, 1)))
        self.assertEqual(missed_values(BOOK, NEVER, (0,)), ())
        self.assertEqual(split_sets((2, ()), ((), (), ()), ()), ())
        self.assertEqual(missed_values((2, ()), ((), (), ()), ()), ())

    def test_splits(self):
        for book, program, dice in straight_programs(260):
            many, shown = register_count(book, program), shown_values(book, program)
            for lot in some_lots(dice, many):
                cases = brute_cases(book, program, lot)
                self.assertEqual(split_cases(book, program, lot), tuple(case for case, _ in cases))
                sets = tuple(tuple(sorted({value for _, kept in cases for value in kept[number]})) for number in range(many))
                self.assertEqual(split_sets(book, program, list(lot)), sets)
                missed = tuple((number, value) for number in range(many) for value in sets[number]
                               if value not in shown[number])
                self.assertEqual(missed_values(book, program, lot), missed)
                self.assertFalse(has_lists((split_cases(book, program, lot), sets, missed)))

    def test_what_holds(self):
        for book, program, dice in straight_programs(200):
            many, inputs = register_count(book, program), len(program[0])
            self.assertEqual(split_sets(book, program, ()), kept_sets(book, program))
            whole = tuple(range(inputs))
            self.assertEqual(split_sets(book, program, whole), shown_values(book, program))
            for lot in some_lots(dice, many):
                sets = split_sets(book, program, lot)
                if set(whole) <= set(lot):
                    self.assertEqual(sets, shown_values(book, program))
                    self.assertEqual(missed_values(book, program, lot), ())
                for more in range(many):
                    wider = split_sets(book, program, tuple(sorted({*lot, more})))
                    self.assertTrue(all(set(one) <= set(other) for one, other in zip(wider, sets)))

    def test_wrong_inputs(self):
        functions = (split_cases, split_sets, missed_values, lambda *given: grounded_row(*given, None, None),
                     lambda *given: is_grounded(*given, None, None, None))
        for function in functions:
            for value in no_rows_of(2):
                self.fails_at(InvalidBook, -1, function, value, None, None)
            for value in no_rows_of(3):
                self.fails_at(InvalidProgram, -1, function, BOOK, value, None)
            for program in (FORKED, LOOPED):
                self.fails_at(Refused, "rows", function, BOOK, program, None)
            self.fails_at(InvalidProgram, 2, function, BOOK, FORKED[:2] + ((9,),), None)
            for value in no_sequences():
                self.fails_at(InvalidLot, -1, function, BOOK, NEVER, value)
            for value in no_values(5):
                self.fails_at(InvalidLot, 0, function, BOOK, NEVER, (value, value))
                self.fails_at(InvalidLot, 1, function, BOOK, NEVER, [2, value])
            for lot, at in (((0, 0), 1), ((1, 0), 1), ((0, 2, 2), 2), ((0, 2, 1, 9), 2), ((5,), 0), ((-1,), 0)):
                self.fails_at(InvalidLot, at, function, BOOK, NEVER, lot)
        for function in functions[:3]:
            lot = [0, 2]
            self.assertEqual(function(lot=lot, program=NEVER, book=in_lists(BOOK)), function(BOOK, NEVER, (0, 2)))
            self.assertEqual(lot, [0, 2])

    def test_the_limits(self):
        book = (4, ((2, tuple(max(0, one - other) for one in range(4) for other in range(4))), (1, (1, 2, 3, 0))))
        program = Writer(book, 3, True).program(4, 8)
        for lot in ((), (0, 1, 2, 3), tuple(range(12)), tuple(range(4, 12)), (5, 11)):
            sets = split_sets(book, program, lot)
            self.assertTrue(all(set(one) <= set(other) for one, other in zip(sets, kept_sets(book, program))))


class GroundedTest(Fails, unittest.TestCase):
    def test_told_rows(self):
        self.assertEqual(grounded_row(BOOK, NEVER, (0,), 3, 1), None)
        row = grounded_row(BOOK, NEVER, (1,), 4, 1)
        self.assertEqual((row[1], 1 in row[4]), ((1,), True))
        self.assertIs(is_grounded(BOOK, NEVER, (1,), 4, 1, row), True)
        self.assertIs(is_grounded(BOOK, NEVER, (), 4, 1, ((0, 1), (1,), (0, 1), (1,), (1,))), True)
        self.assertIs(is_grounded(BOOK, NEVER, (0,), 4, 1, ((0, 1), (1,), (0, 1), (1,), (1,))), False)
        self.assertIs(is_grounded(BOOK, NEVER, (), 4, 1, ((0,), (1,), (0, 1), (1,), (1,))), False)

    def test_rows(self):
        for book, program, dice in straight_programs(160):
            many = register_count(book, program)
            for lot in some_lots(dice, many)[:4]:
                sets = split_sets(book, program, lot)
                for number, value in itertools.product(range(many), range(book[0])):
                    row = grounded_row(book, program, lot, number, value)
                    self.assertEqual(row is not None, value in sets[number])
                    if row is not None:
                        self.assertFalse(has_lists(row))
                        self.assertTrue(is_right(book, program, lot, number, value, row))
                        self.assertIs(is_grounded(book, program, lot, number, value, row), True)

    def test_all_rows(self):
        """Each row of lots: by the words of the document; so a register has a value in one exactly if it is told split."""
        lots = [(0,), (1,), (0, 1)]
        for program in (((((0, 1),), (("of", 1, (0,)), ("of", 0, (0, 1))), ())), (((0, 1), (1,)), (("of", 0, (0, 1)),), ()),
                        (((0,),), (("told", 1), ("of", 0, (0, 1))), ()), ((), (("told", 1), ("of", 1, (0,))), ())):
            many = register_count(BOOK, program)
            for lot in some_lots(None, many, True):
                found = set()
                for row in itertools.product(lots, repeat=many):
                    for number, value in itertools.product(range(many), (0, 1)):
                        right = is_right(BOOK, program, lot, number, value, row)
                        self.assertIs(is_grounded(BOOK, program, lot, number, value, row), right)
                        if right:
                            found.add((number, value))
                sets = split_sets(BOOK, program, lot)
                self.assertEqual(found, {(number, value) for number in range(many) for value in sets[number]})

    def test_runs_are_rows_of_single_values(self):
        for book, program, _ in straight_programs(60):
            many = register_count(book, program)
            runs = set()
            for case, kept in brute_cases(book, program, tuple(range(many))):
                runs.add(case)
                for number in range(many):
                    self.assertIs(is_grounded(book, program, (), number, case[number],
                                              tuple((value,) for value in case)), True)
            self.assertEqual(len(runs), len(list(itertools.product(*program[0]))))

    def test_changed_rows(self):
        for book, program, lot, number, value in ((BOOK, NEVER, (1,), 4, 1), (BOOK, NEVER, (), 3, 0),
                                                  ((3, (LEAST, TURN)), (((0, 1, 2),), (("of", 0, (0, 0)), ("of", 1, (1,))), ()),
                                                   (0,), 2, 0), ((2, (XOR,)), (((0, 1),), (("of", 0, (0, 0)),), ()), (1,), 1, 1)):
            row = grounded_row(book, program, lot, number, value)
            for other in itertools.chain(changed(row), ANYTHING, (row[:-1], row + ((0,),))):
                said = is_grounded(book, program, lot, number, value, other)
                self.assertIs(type(said), bool)
                self.assertEqual(said, is_right(book, program, lot, number, value, other), other)

    def test_wrong_inputs(self):
        for function in (grounded_row, lambda *given: is_grounded(*given, None)):
            for value in no_values(5):
                self.fails_at(InvalidIndex, 0, function, BOOK, NEVER, (0,), value, value)
            for value in no_values(2):
                self.fails_at(InvalidIndex, 1, function, BOOK, NEVER, (0,), 4, value)
        self.assertEqual(grounded_row(value=0, number=4, lot=[0], program=NEVER, book=in_lists(BOOK)),
                         grounded_row(BOOK, NEVER, (0,), 4, 0))
        self.assertIs(is_grounded(row=None, value=0, number=4, lot=[0], program=NEVER, book=(2, (AND, NOT))), False)


if __name__ == "__main__":
    unittest.main()
