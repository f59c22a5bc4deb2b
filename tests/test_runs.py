"""[11], [12]: runs, their values and straight programs, all runs, and what some run shows."""

import itertools
import unittest

from foldsall.errors import InvalidBook, InvalidChoices, InvalidIndex, InvalidProgram, InvalidSize, InvalidValues, Refused
from foldsall.folding import folded_values, kept_sets
from foldsall.programs import need_program, register_sources, unrolled
from foldsall.runs import (all_runs, run_ends, run_values, runs_many, shown_run, shown_values, straight_run)
from tests import helpers
from tests.helpers import (AND, ANYTHING, KEEP, LEAST, MOST, NOT, TURN, XOR, Fails, Writer, has_lists, no_rows_of,
                           no_sequences, no_values)
from tests.test_programs import BOOK, PROGRAM, random_programs

TURNS = (3, (TURN,))
LOOP = (((0, 1),), (("loop", None, (0,), (("of", 0, (1,)),), (2,)),), (1,))
SIDES = (((0, 1), (1,)), (("fork", None, (("of", 1, (0,)),), (), ((2, 1),)),
                          ("loop", 2, (3,), (("fork", None, (), (("of", 1, (4,)),), ((4, 5),)),), (6,)),
                          ("fork", (4, 1), (("told", 0),), (), ())), (4, 3))


def told_runs(book, program, turns):
    """All runs, as the plain machine of the tests goes through them."""
    return list(helpers.all_runs(book, program, turns))


def begin_of(program, run):
    return tuple(trace[0] for trace in run.trace[:len(program[0])])


class RunTest(Fails, unittest.TestCase):
    def test_told_example(self):
        self.assertEqual(run_values(TURNS, LOOP, (1,), (2,)), ((1,), (1, 2, 0), (2, 0)))
        self.assertEqual(shown_values(TURNS, LOOP), ((0, 1), (0, 1, 2), (0, 1, 2)))
        least, most = LEAST, MOST
        program = (((0, 1, 2),), (("told", 1), ("of", 0, (0, 1)), ("of", 1, (2, 1))), (3,))
        self.assertEqual((folded_values((3, (least, most)), program), shown_values((3, (least, most)), program)),
                         ((None, 1, None, None), ((0, 1, 2), (1,), (0, 1), (1,))))

    def test_values_and_ends(self):
        for book, program in random_programs(250):
            runs = told_runs(book, program, 2)
            for run in runs[:40]:
                values = begin_of(program, run)
                told = tuple(tuple(trace) for trace in run.trace)
                self.assertEqual(run_values(book, program, values, run.choices), told)
                self.assertEqual(run_ends(book, program, list(values), tuple(run.choices)), run.ends)

    def test_no_turns_and_many(self):
        self.assertEqual(run_values(TURNS, LOOP, [0], [0]), ((0,), (0,), ()))
        self.assertEqual(run_values(TURNS, LOOP, [0], [30])[1], tuple(at % 3 for at in range(31)))
        self.assertEqual(run_values(TURNS, LOOP, [0], [30])[2], tuple((at + 1) % 3 for at in range(30)))
        told = (((0, 1),), (("loop", 2, (0,), (("of", 0, (1,)),), (2,)),), (1,))
        self.assertEqual(run_ends(TURNS, told, (1,), (2,)), (0,))
        self.assertEqual(run_ends(TURNS, (((2,),), (("loop", 0, (0,), (), (0,)),), (1,)), (2,), (0,)), (2,))
        # Heads turn all at once.
        book = (2, ())
        program = (((0,), (1,)), (("loop", None, (0, 1), (), (3, 2)),), (2, 3))
        self.assertEqual(run_values(book, program, (0, 1), (3,)), ((0,), (1,), (0, 1, 0, 1), (1, 0, 1, 0)))
        # Nothing at all.
        self.assertEqual(run_values((2, ()), ((), (), ()), (), ()), ())
        self.assertEqual(run_ends((2, ()), ((), (), ()), (), ()), ())

    def test_sides_within_loops(self):
        self.assertEqual(run_values(BOOK, SIDES, (0, 1), (0, 2, 1, 0)),
                         ((0,), (1,), (1,), (1,), (1, 0, 0), (0,), (0, 0), ()))
        self.assertEqual(run_values(BOOK, SIDES, (0, 1), (1, 2, 1, 1))[4:], ((1, 0, 1), (0, 1), (0, 1), (0,)))
        self.assertEqual(run_values(BOOK, SIDES, (1, 1), (1, 0))[2:], ((), (1,), (1,), (), (), (0,)))

    def test_straight_runs(self):
        for book, program in random_programs(200):
            for run in told_runs(book, program, 2)[:25]:
                values = begin_of(program, run)
                whole, registers = straight_run(book, program, values, run.choices)
                self.assertFalse(has_lists((whole, registers)))
                self.assertEqual(need_program(book, whole), whole)
                self.assertEqual(whole[0], program[0])
                self.assertTrue(all(row[0] in ("told", "of") for row in whole[1]))
                told = run_values(book, whole, values, ())
                self.assertEqual(tuple(tuple(told[at][0] for at in ones) for ones in registers),
                                 tuple(tuple(trace) for trace in run.trace))
                self.assertEqual(run_ends(book, whole, values, ()), run.ends)
                # In order: told and of rows are just those that were gone through, each once.
                sources = register_sources(book, program)
                made = sorted(at for number, ones in enumerate(registers) if sources[number][0] in ("told", "of")
                              for at in ones)
                self.assertEqual(made, list(range(len(whole[0]), len(told))))

    def test_told_straight_run(self):
        self.assertEqual(straight_run(TURNS, LOOP, (1,), (2,)), (
            (((0, 1),), (("of", 0, (0,)), ("of", 0, (1,))), (2,)), ((0,), (0, 1, 2), (1, 2))))
        self.assertEqual(straight_run(BOOK, SIDES, (1, 1), [0, 0]), (
            (((0, 1), (1,)), (("of", 1, (0,)),), (2, 2)), ((0,), (1,), (2,), (2,), (2,), (), (), ())))

    def test_wrong_values(self):
        for function in (run_values, run_ends, straight_run):
            for value in no_rows_of(2):
                self.fails_at(InvalidBook, -1, function, value, None, None, None)
                self.fails_at(InvalidValues, -1, function, BOOK, SIDES, value, None)
            for value in no_rows_of(3):
                self.fails_at(InvalidProgram, -1, function, BOOK, value, None, None)
            for value in no_values(2):
                self.fails_at(InvalidValues, 0, function, BOOK, SIDES, (value, value), None)
            self.fails_at(InvalidValues, 1, function, BOOK, SIDES, [0, 0], None)
            self.fails_at(InvalidValues, 1, function, BOOK, SIDES, (0, True), None)
            self.fails_at(InvalidValues, -1, function, BOOK, SIDES, (0, 1, 1), None)
            for value in no_sequences():
                self.fails_at(InvalidChoices, -1, function, BOOK, SIDES, (0, 1), value)

    def test_wrong_choices(self):
        for function in (run_values, run_ends, straight_run):
            for choices, at in (((), 0), ((2, 0), 0), ((-1, 0), 0), ((True, 0), 0), ((None,), 0), (("0",), 0), ((0,), 1),
                                ((0, 3), 1), ((0, True), 1), ((0, 1), 2), ((0, 1, 2), 2), ((0, 2, 0), 3),
                                ((0, 0, 0), 2), ((0, 0, None), 2), ((0, 1, 1, 0, 0), 3), ((0, 2, 1, 5, 9), 3),
                                ((0, (0,)), 1)):
                self.fails_at(InvalidChoices, at, function, BOOK, SIDES, (0, 1), choices)
                self.fails_at(InvalidChoices, at, function, BOOK, SIDES, [0, 1], list(choices))
            self.fails_at(InvalidChoices, 0, function, TURNS, LOOP, (1,), ())
            self.fails_at(InvalidChoices, 0, function, TURNS, LOOP, (1,), (-1,))
            self.fails_at(InvalidChoices, 1, function, TURNS, LOOP, (1,), (1, 0))
            self.fails_at(InvalidChoices, 0, function, (2, ()), ((), (), ()), (), (0,))

    def test_names_and_lists(self):
        for function in (run_values, run_ends, straight_run):
            told = function(BOOK, SIDES, (0, 1), (0, 2, 1, 0))
            values, choices = [0, 1], [0, 2, 1, 0]
            self.assertEqual(function([2, [list(AND), NOT]], SIDES, values, choices), told)
            self.assertEqual(function(choices=choices, values=values, program=SIDES, book=BOOK), told)
            self.assertEqual((values, choices), ([0, 1], [0, 2, 1, 0]))
            self.assertFalse(has_lists(told))


class AllRunsTest(Fails, unittest.TestCase):
    def test_all_runs(self):
        for book, program in random_programs(200):
            for turns in (0, 1, 2):
                runs = told_runs(book, program, turns)
                if len(runs) > 2000:
                    continue
                told = sorted((begin_of(program, run), tuple(run.choices)) for run in runs)
                self.assertEqual(all_runs(book, program, turns), tuple(told))

    def test_told_runs(self):
        self.assertEqual(all_runs(TURNS, LOOP, 1), (((0,), (0,)), ((0,), (1,)), ((1,), (0,)), ((1,), (1,))))
        self.assertEqual(all_runs((2, ()), ((), (), ()), 3), (((), ()),))
        self.assertEqual(all_runs((2, ()), (((0, 1), (1,)), (), ()), 0), (((0, 1), ()), ((1, 1), ())))
        # What is told stands against any turns; inner choices are told behind the turns of their loop.
        program = (((0,),), (("loop", 1, (0,), (("fork", None, (), (), ()),), (1,)),), ())
        self.assertEqual(all_runs((2, ()), program, 0), (((0,), (0,)), ((0,), (1, 0)), ((0,), (1, 1))))

    def test_runs_many(self):
        for book, program in random_programs(250):
            try:
                many = runs_many(book, program)
            except Refused as error:
                self.assertEqual(error.at, self.first_refused(program[1]))
                continue
            self.assertIsNone(self.first_refused(program[1]))
            if many < 3000:
                self.assertEqual(many, len(all_runs(book, program, 0)))
        self.assertEqual(runs_many((2, ()), ((), (), ())), 1)
        inner = ("loop", 8, (0,), (("fork", None, (), (), ()),), (0,))
        self.assertEqual(runs_many((2, ()), (((0, 1),), (inner,), ())), 2 * 511)
        self.assertEqual(runs_many((2, ()), (((0, 1),), (("loop", 3, (0,), (inner,), (0,)),), ())),
                         2 * (1 + 511 + 511 ** 2 + 511 ** 3))
        self.assertEqual(runs_many((2, ()), (((0, 1),), (("loop", 10 ** 9, (0,), (), (0,)),), ())), 2 * (10 ** 9 + 1))

    def first_refused(self, rows):
        """By going through all rows in order, each ahead of what is within it."""
        for row in rows:
            if row[0] == "fork":
                told = "seen" if row[1] is not None else self.first_refused(row[2]) or self.first_refused(row[3])
            elif row[0] == "loop":
                told = "turns" if row[1] is None else self.first_refused(row[3])
            else:
                told = None
            if told:
                return told
        return None

    def test_refused(self):
        seen, turns = ("fork", (0, 0), (), (), ()), ("loop", None, (0,), (), (0,))
        for rows, at in (((seen,), "seen"), ((turns,), "turns"), ((seen, turns), "seen"), ((turns, seen), "turns"),
                         ((("loop", None, (0,), (seen,), (0,)),), "turns"),
                         ((("fork", (0, 0), (turns,), (), ()),), "seen"),
                         ((("fork", None, (turns,), (seen,), ()),), "turns"),
                         ((("fork", None, (), (seen,), ()), turns), "seen"),
                         ((("loop", 0, (0,), (seen,), (0,)), turns), "seen")):
            self.fails_at(Refused, at, runs_many, (2, ()), (((0, 1),), rows, ()))

    def test_wrong_inputs(self):
        for value in no_rows_of(2):
            self.fails_at(InvalidBook, -1, all_runs, value, None, None)
            self.fails_at(InvalidBook, -1, runs_many, value, None)
        for value in no_rows_of(3):
            self.fails_at(InvalidProgram, -1, all_runs, BOOK, value, None)
            self.fails_at(InvalidProgram, -1, runs_many, BOOK, value)
        for turns in [value for value in ANYTHING if type(value) is not int or value < 0]:
            self.fails_size("turns", all_runs, BOOK, SIDES, turns)
        self.fails_at(InvalidProgram, 2, runs_many, BOOK, (((0, 1),), (("fork", (0, 0), (), (), ()),), (1,)))
        self.assertEqual(all_runs(turns=1, program=LOOP, book=[3, [TURN]]), all_runs(TURNS, LOOP, 1))


class ShownTest(Fails, unittest.TestCase):
    def test_shown_values(self):
        for book, program in random_programs(220):
            runs = told_runs(book, program, 3)
            shown = shown_values(book, program)
            kept = kept_sets(book, program)
            for number, values in enumerate(shown):
                self.assertEqual(values, tuple(sorted({value for run in runs for value in run.trace[number]})))
                self.assertLessEqual(set(values), set(kept[number]))

    def test_shown_runs(self):
        for book, program in random_programs(160):
            shown = shown_values(book, program)
            for number, value in itertools.product(range(len(shown)), range(book[0])):
                run = shown_run(book, program, number, value)
                self.assertEqual(run is not None, value in shown[number])
                if run is not None:
                    self.assertFalse(has_lists(run))
                    self.assertIn(value, run_values(book, program, *run)[number])

    def test_however_many_turns(self):
        """A counter of five bits, all of which are 1 behind the thirty-first turn and not before."""
        book = (2, (XOR, AND))
        rows, again = [("told", 1)], []
        for bit in range(5):
            carry = 6 + 2 * bit
            rows.extend([("of", 0, (1 + bit, carry)), ("of", 1, (1 + bit, carry))])
            again.append(carry + 1)
        behind = (("of", 1, (1, 2)), ("of", 1, (17, 3)), ("of", 1, (18, 4)), ("of", 1, (19, 5)))
        for most, values in ((None, (0, 1)), (31, (0, 1)), (30, (0,)), (32, (0, 1)), (10 ** 9, (0, 1))):
            program = (((0,),), (("loop", most, (0,) * 5, tuple(rows), tuple(again)),) + behind, (20,))
            self.assertEqual(shown_values(book, program)[20], values)
            run = shown_run(book, program, 20, 1)
            self.assertEqual(run, ((0,), (31,)) if values == (0, 1) else None)
            self.assertEqual(shown_values(book, program)[:17], ((0,),) + ((0, 1),) * 5 + ((1,),) + ((0, 1),) * 9 + (
                ((0, 1),) if most != 30 and most != 31 else ((0,),)))

    def test_seen_forks(self):
        program = (((0, 1),), (("fork", (0, 1), (("told", 1), ("of", 1, (0,))), (("told", 0),), ((2, 3),)),
                               ("fork", (4, 1), (("told", 1),), (), ())), (4,))
        self.assertEqual(shown_values(BOOK, program), ((0, 1), (1,), (0,), (0,), (0,), ()))
        self.assertIsNone(shown_run(BOOK, program, 5, 1))
        self.assertEqual(shown_run(BOOK, program, 3, 0), ((0,), ()))
        # A loop of no turns; rows within are idle.
        program = (((0,),), (("loop", 0, (0,), (("told", 1),), (2,)),), (1,))
        self.assertEqual(shown_values(BOOK, program), ((0,), (0,), ()))

    def test_unrolled_programs_show_the_same(self):
        for book, program in random_programs(160):
            if not self.is_told(program[1]):
                continue
            whole, copies = unrolled(book, program, 0)
            behind, ahead = shown_values(book, whole), shown_values(book, program)
            for source, ones, values in zip(register_sources(book, program), copies, ahead):
                copied = set().union(*[behind[one] for one in ones])
                self.assertLessEqual(set(values), copied)
                if source[0] != "either":
                    self.assertEqual(set(values), copied)

    def is_told(self, rows):
        return all(row[0] in ("told", "of") or (row[0] == "fork" and self.is_told(row[2] + row[3]))
                   or (row[0] == "loop" and row[1] is not None and self.is_told(row[3])) for row in rows)

    def test_wider_programs(self):
        """The limits: three inputs of four values, twelve rows, forks and loops in one another."""
        book = (4, ((1, (1, 2, 3, 0)), (2, tuple(min(row) for row in itertools.product(range(4), repeat=2)))))
        for seed in range(12):
            program = Writer(book, seed).program(3, 12)
            shown, kept = shown_values(book, program), kept_sets(book, program)
            self.assertTrue(all(set(one) <= set(other) for one, other in zip(shown, kept)))

    def test_wrong_inputs(self):
        for value in no_rows_of(2):
            self.fails_at(InvalidBook, -1, shown_values, value, None)
            self.fails_at(InvalidBook, -1, shown_run, value, None, None, None)
        for value in no_rows_of(3):
            self.fails_at(InvalidProgram, -1, shown_values, BOOK, value)
            self.fails_at(InvalidProgram, -1, shown_run, BOOK, value, None, None)
        for value in no_values(8):
            self.fails_at(InvalidIndex, 0, shown_run, BOOK, SIDES, value, None)
        for value in no_values(2):
            self.fails_at(InvalidIndex, 1, shown_run, BOOK, SIDES, 7, value)
        self.assertEqual(shown_run(value=0, number=7, program=SIDES, book=[2, [AND, [1, [1, 0]]]]),
                         shown_run(BOOK, SIDES, 7, 0))
        self.assertEqual(shown_values([2, [AND, [1, (1, 0)]]], PROGRAM), shown_values(BOOK, PROGRAM))
        self.assertEqual(shown_values((2, (XOR, KEEP)), ((), (), ())), ())


if __name__ == "__main__":
    unittest.main()
