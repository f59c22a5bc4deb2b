"""[66]: codes of programs, their runs, and the fewest cells for lines."""

import itertools
import random
import unittest

from foldsall.code import fewest_cells, fewest_hold, plain_code, run_code, write_code
from foldsall.errors import InvalidBook, InvalidChoices, InvalidCode, InvalidCut, InvalidProgram, InvalidValues
from foldsall.passes import missed_alike
from foldsall.runs import run_ends
from foldsall.steps import told_at_once
from foldsall.striking import rest_paper
from tests.helpers import (AND, ANYTHING, KEEP, LEAST, NOT, TURN, XOR, Fails, Writer, all_runs, changed, count, has_lists,
                           in_lists, no_rows_of, no_sequences, no_values)

BOOK = (2, (AND, NOT))
BOOKS = (BOOK, (3, (LEAST, TURN)), (2, ()), (3, ((1, (0, 1, 1)),)), (2, (XOR, KEEP)))
CUT = (((0, 1), (0, 1)), ((0, (("in", 0), ("in", 1))), (1, (("line", 0),)), (0, (("line", 0), ("line", 1))), (1, (("in", 0),)),
                          (0, (("line", 3), ("line", 2)))), (("line", 4), ("in", 1), ("value", 0), ("line", 1)))


def random_cut(book, seed, lines):
    dice = random.Random(seed)
    lists, found = ((0, 1),) * dice.randrange(3), []

    def reading():
        words = ["value"] + ["in"] * bool(lists) + ["line"] * 3 * bool(found)
        word = dice.choice(words)
        return (word, dice.randrange({"value": book[0], "in": len(lists), "line": len(found)}[word]))

    for _ in range(lines):
        number = dice.randrange(len(book[1]))
        found.append((number, tuple(reading() for _ in range(book[1][number][0]))))
    return (lists, tuple(found), tuple(reading() for _ in range(dice.randrange(3))))


def is_read_later(cut, line, at):
    """Whether a line is read by one behind another, or told."""
    later = [reading for _, readings in cut[1][at + 1:] for reading in readings]
    return ("line", line) in later + list(cut[2])


def stand(cut, at):
    return {line for line in range(at + 1) if line == at or is_read_later(cut, line, at)}


def are_cells(cut, cells):
    return all(cells[line] != cells[at] for at in range(len(cut[1])) for line in range(at) if is_read_later(cut, line, at))


def is_fewest(book, cut, value):
    """By the words of the document, of any value."""
    if not isinstance(value, tuple) or len(value) != 3 or has_lists(value):
        return False
    many, cells, moment = value
    if type(many) is not int or not isinstance(cells, tuple) or len(cells) != len(cut[1]):
        return False
    if many != max([len(stand(cut, at)) for at in range(len(cells))], default=0):
        return False
    if not all(type(cell) is int and 0 <= cell < many for cell in cells) or not are_cells(cut, cells):
        return False
    if not cells:
        return moment is None
    return type(moment) is int and 0 <= moment < len(cells) and len(stand(cut, moment)) == many


class CodesTest(Fails, unittest.TestCase):
    def test_codes_run_as_programs(self):
        spared = runs = 0
        for seed, book in enumerate(itertools.islice(itertools.cycle(BOOKS), 500)):
            program = Writer(book, seed).program(seed % 3, 4)
            plain, short = plain_code(book, program), write_code(book, program)
            self.assertFalse(has_lists((plain, short)))
            self.assertEqual((plain[0], short[0]), (program[0], program[0]))
            self.assertLessEqual(len(short[1]), len(plain[1]))
            spared += len(plain[1]) - len(short[1])
            for run in itertools.islice(all_runs(book, program, 2), 40):
                values = tuple(run.trace[number][0] for number in range(len(program[0])))
                self.assertEqual(run_code(book, plain, values, tuple(run.choices)), run.ends)
                self.assertEqual(run_code(book, short, values, tuple(run.choices)), run.ends)
                runs += 1
        self.assertGreater(min(runs, spared), 1000)

    def test_what_is_written(self):
        spared = 0
        for seed, book in enumerate(itertools.islice(itertools.cycle(BOOKS), 300)):
            program = Writer(book, seed).program(seed % 3, 4)
            many = len(program[0]) + count(program[1])
            plain, short = plain_code(book, program)[1], write_code(book, program)[1]
            written = {line[1] for line in plain if line[0] in ("put", "do", "copy")}
            self.assertLessEqual(set(range(len(program[0]), many)), written)
            told = told_at_once(book, program)
            done = [line[1] for line in short if line[0] == "do"]
            self.assertTrue(all(told[cell] is None for cell in done))
            spared += len([line for line in plain if line[0] == "do"]) - len(done)
        self.assertGreater(spared, 50)

    def test_told_by_hand(self):
        # Two heads that change places, a loop in one another, and a fork within.
        inner = ("loop", None, (1,), (), (2,))
        fork = ("fork", None, (("of", 1, (3,)),), (), ((4, 1),))
        program = (((0, 1),), (("loop", None, (0, 0), (inner, fork), (2, 5)),), (1, 2))
        for choices in ((0,), (1, 0, 0), (1, 3, 1), (2, 0, 0, 1, 0), (3, 1, 0, 0, 1, 2, 0)):
            for value in (0, 1):
                told = run_ends(BOOK, program, (value,), choices)
                self.assertEqual(run_code(BOOK, plain_code(BOOK, program), (value,), choices), told)
                self.assertEqual(run_code(BOOK, write_code(BOOK, program), (value,), choices), told)
        # Choices of loops of no turns, of forks without rows, and none of what is barred.
        program = ((), (("told", 0), ("loop", 0, (0,), (("fork", None, (), (), ()),), (1,)), ("fork", None, (), (), ()),
                        ("fork", (0, 1), (("fork", None, (), (), ()),), (), ())), (1,))
        for code in (plain_code(BOOK, program), write_code(BOOK, program)):
            self.assertEqual(run_code(BOOK, code, (), (0, 1)), (0,))
            self.fails_at(InvalidChoices, 0, run_code, BOOK, code, (), (1, 0))
            self.fails_at(InvalidChoices, 1, run_code, BOOK, code, (), (0, 2))
            self.fails_at(InvalidChoices, 1, run_code, BOOK, code, (), [0])
            self.fails_at(InvalidChoices, 2, run_code, BOOK, code, (), (0, 1, 0))

    def test_nothing_is_reckoned_twice(self):
        """Of a straight program without open rows nothing is done; nor is what nobody comes to."""
        program = (((1,), (0, 1)), (("of", 1, (0,)), ("of", 0, (1, 2)), ("fork", (2, 1), (("of", 1, (1,)),), (), ((4, 3),))), (3, 5))
        self.assertEqual([line for line in write_code(BOOK, program)[1] if line[0] == "do"], [])
        self.assertEqual(run_code(BOOK, write_code(BOOK, program), (1, 1), ()), (0, 0))
        self.assertEqual(write_code((2, ()), ((), (), ())), ((), ()))
        self.assertEqual(run_code((2, ()), ((), ()), (), ()), ())

    def test_all_instructions(self):
        code = (((0, 1, 2),), (("put", 1, 2), ("copy", 2, ("cell", 0)), ("do", 3, 0, (("cell", 1), ("value", 1))), ("jump", 5),
                               ("tell", ("value", 0)), ("test", 0, 2, 7), ("tell", ("cell", 9)), ("choose", 9), ("copy", 3, ("value", 0)),
                               ("turns", 4, 2), ("turn", 4, 13), ("do", 3, 1, (("cell", 3),)), ("jump", 10), ("tell", ("cell", 3))))
        book = (3, (LEAST, TURN))
        self.assertEqual(run_code(book, code, (0,), (1, 0)), (0, 1))
        self.assertEqual(run_code(book, code, [2], [1, 1]), (2,))
        self.assertEqual(run_code(book, code, (2,), (0, 2)), (2,))
        self.assertEqual(run_code(book, code, (2,), (0, 1)), (1,))
        self.fails_at(InvalidChoices, 1, run_code, book, code, (2,), (0, 3))
        # Cells are 0 at first.
        fresh = ((), (("test", 5, 0, 2), ("tell", ("value", 1)), ("turn", 6, 4), ("tell", ("value", 1)), ("tell", ("cell", 7))))
        self.assertEqual(run_code(book, fresh, (), ()), (0,))

    def test_wrong_codes(self):
        for value in no_rows_of(2) + [[(), ()], ((), []), ([], ()), (((),), ()), (((0, 2),), ()), (([0],), ()), (((1, 0),), ()), (0, ())]:
            if value != ((), ()):
                self.fails_at(InvalidCode, -1, run_code, BOOK, value, None, None)
        wrong = [value for value in ANYTHING] + [
            ("put", 0), ("put", 0, 2), ("put", -1, 0), ("put", 0, 0, 0), ("put", True, 0), ["put", 0, 0], ("puts", 0, 0),
            ("do", 0, 2, ()), ("do", 0, 1, ()), ("do", 0, 1, [("cell", 0)]), ("do", 0, 1, (("line", 0),)), ("do", 0, None, ()),
            ("do", 0, 0, (("cell", 0),)), ("do", 0, 1, (("cell", 0), ("cell", 0))), ("do", 0, 1, (["cell", 0],)),
            ("do", None, 1, (("cell", 0),)), ("copy", 0, ("value", 2)), ("copy", 0, ("cell", -1)), ("copy", "0", ("cell", 0)),
            ("copy", 0, ("cell", 0, 0)), ("copy", 0, (0, 0)), ("jump", 4), ("jump", -1), ("jump", None), ("jump",),
            ("test", 0, 2, 0), ("test", 0, 0, 4), ("test", 0, 0), ("test", None, 0, 0), ("choose", 4), ("choose", 0, 0), ("turns", 0, -1),
            ("turns", 0, True), ("turns", 0), ("turns", -1, 0), ("turn", 0, 4), ("turn", None, 0), ("turn", 0), ("tell", 0),
            ("tell", ("value", None)), ("tell", ("cell",)), ("tell", ("cell", 0), 0), (("put",), 0, 0), ("in", 0), (["put"], 0, 0),
            ("tell", (["cell"], 0)), ("copy", 0, ({}, 0)), ({}, 0)]
        for value in wrong:
            self.fails_at(InvalidCode, 0, run_code, BOOK, ((), (value, ("tell", 0), ("tell", ("cell", 0)))), None, None)
            self.fails_at(InvalidCode, 1, run_code, BOOK, ((), (("put", 0, 0), value, ("tell", ("cell", 0)))), None, None)
        right = (("put", 7, 1), ("jump", 3), ("turns", 9, None))
        self.assertEqual(run_code(BOOK, ((), right), (), ()), ())

    def test_wrong_inputs(self):
        program = (((0, 1), (1,)), (("loop", 2, (0,), (("fork", None, (), (), ()),), (1,)),), (2,))
        code = write_code(BOOK, program)
        for function in (plain_code, write_code):
            for value in no_rows_of(2):
                self.fails_at(InvalidBook, -1, function, value, None)
            for value in no_rows_of(3) + [[(), (), ()]]:
                self.fails_at(InvalidProgram, -1, function, BOOK, value)
            self.assertEqual(function(program=program, book=in_lists(BOOK)), function(BOOK, program))
        for value in no_rows_of(2):
            self.fails_at(InvalidBook, -1, run_code, value, None, None, None)
        for value in no_rows_of(2):
            self.fails_at(InvalidValues, -1, run_code, BOOK, code, value, None)
        for value in no_values(2):
            self.fails_at(InvalidValues, 0, run_code, BOOK, code, (value, 0), None)
        for value in ANYTHING:
            if value != 1 or isinstance(value, bool):
                self.fails_at(InvalidValues, 1, run_code, BOOK, code, [0, value], None)
        for value in no_sequences():
            self.fails_at(InvalidChoices, -1, run_code, BOOK, code, (0, 1), value)
        for one in (code, plain_code(BOOK, program)):
            for choices, at in (((), 0), ((3,), 0), ((True,), 0), ((None, 0), 0), ((1,), 1), ((2, 0), 2), ((2, 0, 2), 2), ((1, "0"), 1),
                                ((0, 0), 1), ((2, 1, 0, 1), 3)):
                self.fails_at(InvalidChoices, at, run_code, BOOK, one, (0, 1), choices)
            self.assertEqual(run_code(choices=[2, 1, 0], values=[0, 1], code=one, book=in_lists(BOOK)), (1,))


class CellsTest(Fails, unittest.TestCase):
    def test_told_cells(self):
        self.assertEqual(fewest_cells(BOOK, CUT)[0], 3)
        self.assertEqual(fewest_cells(BOOK, CUT)[2], 3)
        self.assertEqual(fewest_cells((2, ()), ((), (), ())), (0, (), None))
        self.assertEqual(fewest_cells((2, ()), (((0, 1),), (), (("in", 0),))), (0, (), None))
        # A line that nothing reads stands behind itself all the same.
        self.assertEqual(fewest_cells(BOOK, (((0, 1),), ((1, (("in", 0),)), (1, (("in", 0),))), ())), (1, (0, 0), 0))
        self.assertEqual(fewest_cells(BOOK, (((0, 1),), ((1, (("in", 0),)), (1, (("in", 0),))), (("line", 0),))), (2, (0, 1), 1))

    def test_cells(self):
        for seed, book in enumerate(itertools.islice(itertools.cycle(BOOKS[:2] + BOOKS[3:]), 400)):
            cut = random_cut(book, seed, seed % 8)
            told = fewest_cells(book, cut)
            self.assertFalse(has_lists(told))
            self.assertTrue(is_fewest(book, cut, told))
            self.assertIs(fewest_hold(book, cut, told), True)
            moments = [at for at in range(len(cut[1])) if len(stand(cut, at)) == told[0]]
            self.assertEqual(told[2], moments[0] if moments else None)
            if len(cut[1]) < 5:
                # All cells gone through: fewer are not enough, and all such hold.
                for many in range(told[0] + 1):
                    for cells in itertools.product(range(many), repeat=len(cut[1])):
                        right = are_cells(cut, cells)
                        self.assertTrue(many == told[0] or not right)
                        self.assertIs(fewest_hold(book, cut, (many, cells, told[2])), right and many == told[0])
            for at in range(-1, len(cut[1]) + 1):
                self.assertIs(fewest_hold(book, cut, (told[0], told[1], at)), at in moments)

    def test_changed_papers(self):
        for cut in (CUT, (((0, 1),), (), (("in", 0),)), missed_alike(BOOK)[0], rest_paper(BOOK)[1]):
            paper = fewest_cells(BOOK, cut)
            self.assertIs(fewest_hold(BOOK, cut, paper), True)
            for value in itertools.chain(changed(paper), ANYTHING):
                told = fewest_hold(BOOK, cut, value)
                self.assertIs(type(told), bool)
                self.assertEqual(told, is_fewest(BOOK, cut, value), value)

    def test_wrong_inputs(self):
        for function in (fewest_cells, lambda book, cut: fewest_hold(book, cut, None)):
            for value in no_rows_of(2):
                self.fails_at(InvalidBook, -1, function, value, None)
            for value in no_rows_of(3) + [[(), (), ()]]:
                self.fails_at(InvalidCut, -1, function, BOOK, value)
            for at in range(3):
                self.fails_at(InvalidCut, at, function, BOOK, CUT[:at] + (5,) + CUT[at + 1:])
        told = fewest_cells(cut=CUT, book=in_lists(BOOK))
        self.assertIs(fewest_hold(value=told, cut=CUT, book=in_lists(BOOK)), True)


if __name__ == "__main__":
    unittest.main()
