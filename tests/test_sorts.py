"""[59]: books and programs of several sorts."""

import itertools
import random
import unittest

from foldsall.errors import InvalidList, InvalidProgram, InvalidSorted, InvalidValues
from foldsall.sorts import (need_sorted, program_sorts, sort_parts, sorted_folds, sorted_kept, sorted_values,
                            sorts_reached)
from tests.helpers import ANYTHING, Fails, changed, no_rows_of, no_values

ONE = ((2, 2, 2), (((0, 1), 2, (0, 1, 1, 0)),))
# Sort 0 has two values, sort 1 three: the least of both, is it 2, which of both.
MIXED = ((2, 3), (((0, 1), 1, (0, 0, 0, 0, 1, 1)), ((1,), 0, (0, 0, 1)), ((0, 0, 0), 0, (0, 1, 0, 1, 0, 0, 1, 1))))
PROGRAM = ((0, 1), (("told", 1, 2), ("of", 0, (0, 2)), ("of", 1, (3,)), ("told", 0, 0), ("of", 2, (4, 5, 0))))


def random_book(dice, sizes):
    operations = []
    for _ in range(dice.randrange(5)):
        sorts = tuple(dice.randrange(len(sizes)) for _ in range(dice.randrange(1, 4)))
        sort = dice.randrange(len(sizes))
        rows = list(itertools.product(*[range(sizes[place]) for place in sorts]))
        operations.append((sorts, sort, tuple(dice.randrange(sizes[sort]) for _ in rows)))
    return (sizes, tuple(operations))


def random_program(dice, book, inputs, rows):
    sizes, operations = book
    sorts = [dice.randrange(len(sizes)) for _ in range(inputs)]
    program_inputs, made = tuple(sorts), []
    for _ in range(rows):
        ready = [number for number, operation in enumerate(operations) if set(operation[0]) <= set(sorts)]
        if ready and dice.random() < 0.7:
            number = dice.choice(ready)
            reads = tuple(dice.choice([at for at, own in enumerate(sorts) if own == sort])
                          for sort in operations[number][0])
            made.append(("of", number, reads))
            sorts.append(operations[number][1])
        else:
            sort = dice.randrange(len(sizes))
            made.append(("told", sort, dice.randrange(sizes[sort])))
            sorts.append(sort)
    return (program_inputs, tuple(made)), tuple(sorts)


def table_of(book, number):
    sorts, _, answers = book[1][number]
    return dict(zip(itertools.product(*[range(book[0][sort]) for sort in sorts]), answers))


def brute_values(book, program, values):
    known = list(values)
    for word, number, told in program[1]:
        known.append(told if word == "told" else table_of(book, number)[tuple(known[read] for read in told)])
    return tuple(known)


def brute_kept(book, program, lists, opened=False):
    kept = [tuple(values) for values in lists]
    sorts = list(program[0])
    for word, number, told in program[1]:
        sort = number if word == "told" else book[1][number][1]
        if word == "told":
            lot = {told}
        else:
            lot = {table_of(book, number)[row] for row in itertools.product(*[kept[read] for read in told])}
        if opened and len(lot) > 1:
            lot = set(range(book[0][sort]))
        kept.append(tuple(sorted(lot)))
        sorts.append(sort)
    return tuple(kept)


class SortsTest(Fails, unittest.TestCase):
    def test_need_sorted(self):
        for book in (ONE, MIXED, ((4,), ()), ((4, 4, 4), (((0, 1, 2), 0, (3,) * 64),) * 6)):
            self.assertEqual(need_sorted(book), book)

    def test_no_books(self):
        wrong = [value for value in ANYTHING] + [
            [(2,), ()], ([2], ()), ((2,), []), ((), ()), ((2, 2, 2, 2), ()), ((1,), ()), ((5,), ()), ((True,), ()),
            (("2",), ()), ((2,),), ((2,), (), ()), ((2,), None), (2, ()), ((2,), (((0,), 0, (0, 1)),) * 7)]
        for value in wrong:
            self.fails_at(InvalidSorted, -1, need_sorted, value)
            for function in (sorts_reached, sort_parts):
                self.fails_at(InvalidSorted, -1, function, value)
            self.fails_at(InvalidSorted, -1, program_sorts, value, None)
            self.fails_at(InvalidSorted, -1, sorted_folds, value, None)
            self.fails_at(InvalidSorted, -1, sorted_values, value, None, None)
            self.fails_at(InvalidSorted, -1, sorted_kept, value, None, None)

    def test_no_operations(self):
        right = ((0,), 0, (0, 1))
        for value in list(ANYTHING) + [
                ((0,), 0), [(0,), 0, (0, 1)], ([0], 0, (0, 1)), ((0,), 0, [0, 1]), ((), 0, (0,)), ((0,) * 4, 0, (0,) * 16),
                ((1,), 0, (0, 1)), ((0,), 1, (0, 1)), ((0,), 0, (0, 2)), ((0,), 0, (0,)), ((0,), 0, (0, True)),
                ((0,), False, (0, 1)), ((False,), 0, (0, 1)), ((0,), 0, (0, 1), 0)]:
            self.fails_at(InvalidSorted, 0, need_sorted, ((2,), (value, None)))
            self.fails_at(InvalidSorted, 2, need_sorted, ((2,), (right, right, value)))

    def test_programs_at_random(self):
        dice = random.Random(59)
        for _ in range(300):
            book = random_book(dice, dice.choice([(2,), (2, 3), (3, 2), (2, 2, 2), (4, 2)]))
            program, sorts = random_program(dice, book, dice.randrange(1, 4), dice.randrange(5))
            self.assertEqual(program_sorts(book, program), sorts)
            lists = [tuple(range(book[0][sort])) for sort in program[0]]
            shown = [set() for _ in sorts]
            for values in itertools.product(*lists):
                told = sorted_values(book, program, list(values))
                self.assertEqual(told, brute_values(book, program, values))
                for lot, value in zip(shown, told):
                    lot.add(value)
            opened = brute_kept(book, program, lists, True)
            self.assertEqual(sorted_folds(book, program),
                             tuple(lot[0] if len(lot) == 1 else None for lot in opened))
            kept = sorted_kept(book, program, lists)
            self.assertEqual(kept, brute_kept(book, program, lists))
            for lot, values in zip(shown, kept):
                self.assertLessEqual(lot, set(values))
            few = [tuple(sorted(dice.sample(values, dice.randrange(1, len(values) + 1)))) for values in lists]
            self.assertEqual(sorted_kept(book, program, few), brute_kept(book, program, few))

    def test_no_programs(self):
        inputs, rows = PROGRAM
        for value in list(ANYTHING) + [list(PROGRAM), PROGRAM + ((),)]:
            if value not in (("x", 1), (2, ((1, (0, 2)),))):
                self.fails_at(InvalidProgram, -1, program_sorts, MIXED, value)
        self.fails_at(InvalidProgram, -1, program_sorts, MIXED, ((), ()))
        for value in ("x", [0, 1], (2,), (True,), (-1,), None, ((0,),)):
            self.fails_at(InvalidProgram, 0, sorted_folds, MIXED, (value, None))
        for row in list(ANYTHING) + [
                ("told", 0), ("told", 2, 0), ("told", 0, 2), ("told", 0, True), ("told", False, 0), ["told", 0, 0],
                ("of", 3, (0,)), ("of", 0, (0,)), ("of", 0, (1, 0)), ("of", 0, [0, 1]), ("of", 0, (0, 2)),
                ("of", 0, (0, -1)), ("of", 1, (True,)), ("of", 1, ((),)), ("off", 1, (1,)), ("of", 1, (1,), 0)]:
            self.fails_at(InvalidProgram, 1, sorted_values, MIXED, (inputs, (row,)), None)
        self.fails_at(InvalidProgram, 1, sorted_kept, MIXED, (inputs, list(rows)), None)
        self.assertEqual(program_sorts(MIXED, ((), (("told", 1, 2),))), (1,))
        self.assertEqual(program_sorts(MIXED, ((1,), ())), (1,))

    def test_wrong_values_and_lists(self):
        for value in no_rows_of(2):
            self.fails_at(InvalidValues, -1, sorted_values, MIXED, PROGRAM, value)
            self.fails_at(InvalidList, -1, sorted_kept, MIXED, PROGRAM, value)
        for value in no_values(2):
            self.fails_at(InvalidValues, 0, sorted_values, MIXED, PROGRAM, (value, value))
        for value in no_values(3):
            self.fails_at(InvalidValues, 1, sorted_values, MIXED, PROGRAM, (1, value))
        for value in list(ANYTHING) + [(0, 2), (1, 0), (0, 0), (False, 1), "01"]:
            self.fails_at(InvalidList, 0, sorted_kept, MIXED, PROGRAM, (value, value))
        self.fails_at(InvalidList, 1, sorted_kept, MIXED, PROGRAM, ((0,), (0, 1, 2, 3)))
        self.assertEqual(sorted_kept(MIXED, PROGRAM, [[0], [2]])[:3], ((0,), (2,), (2,)))

    def test_changed_programs(self):
        for program in changed(PROGRAM):
            try:
                sorts = program_sorts(MIXED, program)
                self.assertEqual(len(sorted_folds(MIXED, program)), len(sorts))
            except InvalidProgram as error:
                self.assertIn(error.at, (-1, 0, 1))

    def test_sorts_reached(self):
        dice = random.Random(60)
        for _ in range(400):
            book = random_book(dice, dice.choice([(2,), (2, 2), (2, 3), (2, 2, 2), (2, 3, 2)]))
            steps = set()
            for number, (sorts, made, _) in enumerate(book[1]):
                table = table_of(book, number)
                for one, other in itertools.combinations(table, 2):
                    unlike = [place for place in range(len(sorts)) if one[place] != other[place]]
                    if len(unlike) == 1 and table[one] != table[other]:
                        steps.add((sorts[unlike[0]], made))
            reached = []
            for sort in range(len(book[0])):
                known = {sort}
                while any(one in known and other not in known for one, other in steps):
                    known |= {other for one, other in steps if one in known}
                reached.append(tuple(sorted(known)))
            self.assertEqual(sorts_reached(book), tuple(reached))
            parts = {tuple(other for other in known if sort in reached[other])
                     for sort, known in enumerate(reached)}
            self.assertEqual(sort_parts(book), tuple(sorted(parts)))

    def test_told_examples(self):
        self.assertEqual((sort_parts(ONE), sorts_reached(ONE)[0]), (((0,), (1,), (2,)), (0, 2)))
        self.assertEqual(sort_parts(MIXED), ((0, 1),))
        self.assertEqual(sort_parts(((2, 2), (((0,), 1, (1, 1)),))), ((0,), (1,)))
        self.assertEqual(sorted_folds(MIXED, PROGRAM), (None, None, 2, None, None, 0, None))
        self.assertEqual(program_sorts(book=MIXED, program=PROGRAM), (0, 1, 1, 1, 0, 0, 0))


if __name__ == "__main__":
    unittest.main()
