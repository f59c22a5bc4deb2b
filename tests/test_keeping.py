"""[15], [16]: registers read as trees, double inputs, open rows as inputs, folded rows told."""

import random
import unittest

from foldsall.errors import InvalidBook, InvalidIndex, InvalidProgram, InvalidSize, Refused
from foldsall.folding import folded_values, kept_sets
from foldsall.keeping import double_inputs, opened_program, reading_tree, told_program
from foldsall.programs import is_straight, need_program, register_count, register_sources
from foldsall.runs import run_values, shown_values
from tests import helpers
from tests.helpers import (AND, ANYTHING, LEAST, MOST, TURN, XOR, Fails, Writer, has_lists, in_lists,
                           no_rows_of, no_values)
from tests.test_programs import BOOK, PROGRAM, random_programs

STRAIGHT = (((0, 1), (0,)), (("of", 0, (0, 0)), ("told", 1), ("of", 0, (2, 3)), ("of", 0, (4, 1)), ("of", 1, (4,))), (5, 6))
FORKED = (((0, 1),), (("fork", None, (), (), ()),), (0,))
LOOPED = (((0, 1),), (("loop", 0, (0,), (), (0,)),), (0,))
WRONG_KS = [k for k in ANYTHING if k is not None and (type(k) is not int or k < 1)]


def tree_of(program, number):
    """A register as a nested tree: an input, a told value, or an operation over trees."""
    if number < len(program[0]):
        return ("in", number)
    row = program[1][number - len(program[0])]
    return row if row[0] == "told" else ("of", row[1], tuple(tree_of(program, read) for read in row[2]))


def leaves(tree):
    """The inputs of a tree in the order in which they are read."""
    if tree[0] == "in":
        return (tree[1],)
    return tuple(leaf for part in tree[2] for leaf in leaves(part)) if tree[0] == "of" else ()


def rows_in(tree):
    """The rows of a tree, each behind what it reads."""
    if tree[0] == "in":
        return []
    below = [row for part in tree[2] for row in rows_in(part)] if tree[0] == "of" else []
    return below + [tree[:2]]


def ways(program, start, number):
    """How many ways lead from a register to another one, or are none long."""
    if start == number:
        return 1
    row = program[1][number - len(program[0])] if number >= len(program[0]) else ("told",)
    return sum(ways(program, start, read) for read in row[2]) if row[0] == "of" else 0


class TreeTest(Fails, unittest.TestCase):
    def test_told_trees(self):
        self.assertEqual(reading_tree(BOOK, STRAIGHT, 5), (
            (((0, 1), (0, 1), (0,)), (("of", 0, (0, 1)), ("told", 1), ("of", 0, (3, 4)), ("of", 0, (5, 2))), (6,)), (0, 0, 1)))
        self.assertEqual(reading_tree(BOOK, STRAIGHT, 1), ((((0,),), (), (0,)), (1,)))
        self.assertEqual(reading_tree(BOOK, STRAIGHT, 3), (((), (("told", 1),), (0,)), ()))
        self.assertEqual(double_inputs(BOOK, STRAIGHT, 5), (0,))
        self.assertEqual([double_inputs(BOOK, STRAIGHT, at) for at in (0, 1, 2, 3)], [(), (), (0,), ()])

    def test_trees(self):
        for book, program in random_programs(300, True):
            kept = kept_sets(book, program)
            shown = shown_values(book, program)
            for number in range(register_count(book, program)):
                tree = tree_of(program, number)
                if len(leaves(tree)) + len(rows_in(tree)) > 400:
                    self.fails_size("tree", reading_tree, book, program, number)
                    continue
                told, inputs = reading_tree(book, program, number)
                self.assertEqual(need_program(book, told), told)
                self.assertFalse(has_lists((told, inputs)))
                self.assertEqual(inputs, leaves(tree))
                self.assertEqual(told[0], tuple(program[0][at] for at in inputs))
                self.assertEqual(len(told[2]), 1)
                self.assertEqual(told[2][0], register_count(book, told) - 1 if told[1] else 0)
                self.assertEqual([row[:2] for row in told[1]], rows_in(tree))
                self.renumbered(told, tree)
                reads = [read for row in told[1] if row[0] == "of" for read in row[2]] + [told[2][0]]
                self.assertEqual(sorted(reads), list(range(register_count(book, told))))
                # What a register keeps is what the tree's end is shown.
                if len(told[0]) <= 5:
                    self.assertEqual(shown_values(book, told)[told[2][0]], kept[number])
                double = double_inputs(book, program, number)
                self.assertEqual(double, tuple(at for at in range(len(program[0])) if ways(program, at, number) > 1))
                self.assertEqual(double, tuple(sorted({at for at in inputs if inputs.count(at) > 1})))
                if not double:
                    self.assertEqual(kept[number], shown[number])

    def renumbered(self, told, tree):
        """The tree's program is the same tree again, its inputs one behind another."""
        again = tree_of(told, told[2][0])
        self.assertEqual(leaves(again), tuple(range(len(told[0]))))
        self.assertEqual(rows_in(again), rows_in(tree))

    def test_too_large(self):
        rows = tuple(("of", 0, (at, at)) for at in range(8))
        program = (((0, 1),), rows, ())
        # So many inputs and rows: 2 ** (n + 1) - 1.
        for number in range(9):
            many = 2 ** (number + 1) - 1
            if many <= 400:
                told, inputs = reading_tree(BOOK, program, number)
                self.assertEqual(len(told[0]) + len(told[1]), many)
            else:
                self.fails_size("tree", reading_tree, BOOK, program, number)
        line = (((0, 1),), tuple(("of", 1, (at,)) for at in range(400)), ())
        self.assertEqual(len(reading_tree(BOOK, line, 399)[0][1]), 399)
        self.fails_size("tree", reading_tree, BOOK, line, 400)
        wide = (((0, 1),), tuple(("of", 0, (at, at)) for at in range(90)), ())
        self.fails_size("tree", reading_tree, BOOK, wide, 90)
        self.assertEqual(double_inputs(BOOK, wide, 90), (0,))

    def test_three_places(self):
        book = (2, ((3, (0, 1, 1, 0, 1, 0, 0, 1)),))
        program = (((0, 1), (0, 1)), (("of", 0, (1, 0, 1)), ("of", 0, (2, 0, 2))), ())
        told, inputs = reading_tree(book, program, 3)
        self.assertEqual(inputs, (1, 0, 1, 0, 1, 0, 1))
        self.assertEqual(told[1], (("of", 0, (0, 1, 2)), ("of", 0, (4, 5, 6)), ("of", 0, (7, 3, 8))))

    def test_wrong_inputs(self):
        for function in (reading_tree, double_inputs):
            for value in no_rows_of(2):
                self.fails_at(InvalidBook, -1, function, value, None, None)
            for value in no_rows_of(3):
                self.fails_at(InvalidProgram, -1, function, BOOK, value, None)
            for program in (FORKED, LOOPED, PROGRAM):
                self.fails_at(Refused, "straight", function, BOOK, program, None)
            for value in no_values(7):
                self.fails_at(InvalidIndex, -1, function, BOOK, STRAIGHT, value)
            self.assertEqual(function(number=5, program=STRAIGHT, book=in_lists(BOOK)), function(BOOK, STRAIGHT, 5))


class OpenedTest(Fails, unittest.TestCase):
    def test_told_programs(self):
        self.assertEqual(opened_program(BOOK, STRAIGHT, 1), (
            (((0, 1), (0,), (0, 1), (0, 1), (0, 1)), (("told", 1), ("of", 0, (3, 1))), (6, 4)), (0, 1, 2, 5, 3, 6, 4)))
        self.assertEqual(opened_program(BOOK, STRAIGHT, 2), (STRAIGHT, tuple(range(7))))
        self.assertEqual(opened_program(BOOK, STRAIGHT, None), (STRAIGHT, tuple(range(7))))
        self.assertEqual(opened_program((3, (TURN,)), (((0, 2), (1,)), (("of", 0, (0,)),), ()), 1),
                         ((((0, 1, 2), (1,), (0, 1, 2)), (), ()), (0, 1, 2)))

    def test_opened(self):
        for book, program in random_programs(300, True):
            for k in (None, 1, 2, 3, 9):
                told, registers = opened_program(book, program, k)
                self.assertEqual(need_program(book, told), told)
                self.assertFalse(has_lists((told, registers)))
                kept = kept_sets(book, program, k)
                without = kept_sets(book, told)
                self.assertEqual(sorted(registers), list(range(len(kept))))
                self.assertEqual(tuple(without[number] for number in registers), kept)
                many = len(program[0])
                opened = [at for at in range(many, len(kept)) if k is not None and k < len(kept[at])]
                self.assertEqual(told[0], kept[:many] + (tuple(range(book[0])),) * len(opened))
                self.assertEqual(registers[:many], tuple(range(many)))
                self.assertEqual([registers[at] for at in opened], list(range(many, many + len(opened))))
                rest = [at for at in range(many, len(kept)) if at not in opened]
                self.assertEqual([registers[at] for at in rest], list(range(many + len(opened), len(kept))))
                sources, before = register_sources(book, told), register_sources(book, program)
                for at in rest:
                    source = before[at]
                    if source[0] == "of":
                        source = ("of", source[1], tuple(registers[read] for read in source[2]))
                    self.assertEqual(sources[registers[at]], source)
                self.assertEqual(told[2], tuple(registers[end] for end in program[2]))

    def test_wrong_inputs(self):
        for value in no_rows_of(2):
            self.fails_at(InvalidBook, -1, opened_program, value, None, None)
        for value in no_rows_of(3):
            self.fails_at(InvalidProgram, -1, opened_program, BOOK, value, 0)
        for program in (FORKED, LOOPED):
            self.fails_at(Refused, "straight", opened_program, BOOK, program, 0)
        for k in WRONG_KS:
            self.fails_size("k", opened_program, BOOK, STRAIGHT, k)
        self.assertEqual(opened_program(k=1, program=STRAIGHT, book=in_lists(BOOK)), opened_program(BOOK, STRAIGHT, 1))


class ToldTest(Fails, unittest.TestCase):
    def test_told_programs(self):
        self.assertEqual(told_program(BOOK, STRAIGHT), (STRAIGHT[0], STRAIGHT[1][:3] + (("told", 0), STRAIGHT[1][4]), (5, 6)))
        program = (((0, 1),), (("told", 0), ("fork", (0, 1), (("of", 0, (0, 1)),), (("of", 1, (1,)),), ((2, 1), (2, 3))),
                               ("loop", None, (4,), (("of", 1, (6,)), ("of", 0, (5, 6))), (4,)), ("of", 1, (6,))), (9,))
        self.assertEqual(told_program(BOOK, program), (
            ((0, 1),), (("told", 0), ("fork", (0, 1), (("told", 0),), (("told", 1),), ((2, 1), (2, 3))),
                        ("loop", None, (4,), (("told", 1), ("told", 0)), (4,)), ("told", 1)), (9,)))

    def test_any_programs(self):
        told_rows = 0
        for book, program in random_programs(400):
            told = told_program(book, program)
            self.assertEqual(need_program(book, told), told)
            folds = folded_values(book, program)
            self.assertEqual(folded_values(book, told), folds)
            self.assertEqual(told_program(book, told), told)
            for fold, before, now in zip(folds, register_sources(book, program), register_sources(book, told)):
                turned = before[0] == "of" and fold is not None
                self.assertEqual(now, ("told", fold) if turned else before)
                told_rows += turned
            self.assertEqual((told[0], told[2]), (program[0], program[2]))
            for run in list(helpers.all_runs(book, program, 1))[:30]:
                values = tuple(trace[0] for trace in run.trace[:len(program[0])])
                self.assertEqual(run_values(book, told, values, run.choices), tuple(tuple(trace) for trace in run.trace))
        self.assertGreater(told_rows, 100)

    def test_wrong_inputs(self):
        for value in no_rows_of(2):
            self.fails_at(InvalidBook, -1, told_program, value, None)
        for value in no_rows_of(3):
            self.fails_at(InvalidProgram, -1, told_program, BOOK, value)
        self.assertEqual(told_program(program=PROGRAM, book=in_lists(BOOK)), told_program(BOOK, PROGRAM))


class WiderTest(unittest.TestCase):
    def test_thirty_rows(self):
        for seed, book in enumerate([(3, (LEAST, MOST)), (2, (XOR, AND)), (3, (TURN, LEAST))] * 4):
            program = Writer(book, seed, True).program(3, 30)
            self.assertTrue(is_straight(book, program))
            dice = random.Random(seed)
            for number in dice.sample(range(33), 6):
                try:
                    told, inputs = reading_tree(book, program, number)
                except InvalidSize:
                    continue
                self.assertEqual(kept_sets(book, told)[told[2][0]], kept_sets(book, program)[number])
                values = [lot[-1] for lot in program[0]]
                self.assertEqual(run_values(book, told, [values[at] for at in inputs], ())[told[2][0]],
                                 run_values(book, program, values, ())[number])


if __name__ == "__main__":
    unittest.main()
