"""[65]: what is told at once, and round by round."""

import itertools
import unittest

from foldsall.errors import InvalidBook, InvalidProgram
from foldsall.folding import folded_values
from foldsall.programs import need_program, register_count
from foldsall.steps import loop_gap, round_row, told_at_once, told_by_rounds
from tests.helpers import (AND, ANYTHING, KEEP, LEAST, NOT, TURN, XOR, Fails, Writer, all_runs, answer, count, has_lists,
                           in_lists, no_rows_of)

BOOKS = ((2, (AND, NOT)), (3, (LEAST, TURN)), (2, ()), (3, ((1, (0, 1, 1)),)), (2, (XOR, KEEP)))


class Flat:
    """A program as rules: for each register what gives it, and under which sides of forks and loops it stands."""

    def __init__(self, program):
        self.rules, self.forks = [], []
        for values in program[0]:
            self.rules.append((("list", values), ()))
        self.rows(program[1], ())

    def rows(self, rows, under):
        for row in rows:
            if row[0] == "fork":
                fork = len(self.forks)
                self.forks.append((row[1], under))
                self.rows(row[2], under + ((fork, 0),))
                self.rows(row[3], under + ((fork, 1),))
                for one, other in row[4]:
                    self.rules.append((("pair", fork, one, other), under))
            elif row[0] == "loop":
                for first, again in zip(row[2], row[4]):
                    self.rules.append((("head", row[1] != 0, first, again), under))
                self.rows(row[3], under + ((None, row[1] != 0),))
            else:
                self.rules.append((row, under))


def meet(things):
    things = [thing for thing in things if thing != -1]
    if not things:
        return -1
    return things[0] if things.count(things[0]) == len(things) else None


def barred(test, told):
    if test is None or told[test[0]] is None:
        return ()
    if told[test[0]] == -1:
        return (0, 1)
    return (1,) if told[test[0]] == test[1] else (0,)


def least(book, program, struck=None):
    """The least that is told, by going on with all rules from -1 on; and the sides that it bars, where somebody comes."""
    flat = Flat(program)
    told = [-1] * len(flat.rules)

    def lets(fork, side):
        if fork is None:
            return side
        return (fork, side) not in struck if struck is not None else side not in barred(flat.forks[fork][0], told)

    def comes(under):
        return all(lets(fork, side) for fork, side in under)

    while True:
        now = []
        for rule, under in flat.rules:
            if not comes(under):
                now.append(-1)
            elif rule[0] == "list":
                now.append(rule[1][0] if len(rule[1]) == 1 else None)
            elif rule[0] == "told":
                now.append(rule[1])
            elif rule[0] == "pair":
                now.append(meet([told[rule[2 + side]] for side in (0, 1) if lets(rule[1], side)]))
            elif rule[0] == "head":
                now.append(meet([told[rule[2]]] + ([told[rule[3]]] if rule[1] else [])))
            else:
                reads = [told[read] for read in rule[2]]
                free = [range(book[0]) if read is None else [read] for read in reads]
                made = {answer(book[0], book[1][rule[1]], row) for row in itertools.product(*free)} if -1 not in reads else ()
                now.append(-1 if -1 in reads else made.pop() if len(made) == 1 else None)
        if now == told:
            bars = {(at, side) for at, (test, under) in enumerate(flat.forks) if comes(under) for side in barred(test, told)}
            return tuple(told), bars
        told = now


def rounds(book, program):
    struck, found = set(), []
    while True:
        told, bars = least(book, program, struck)
        found.append(told)
        if bars <= struck:
            return tuple(found)
        struck |= bars


def rank(thing):
    """Least: nobody comes there, then a value, then open."""
    return 0 if thing == -1 else 2 if thing is None else 1


def is_no_more(one, other):
    """Whether one row tells no more than another one; it is not above it anywhere."""
    return all(rank(a) >= rank(b) and (rank(b) != rank(a) or a == b) for a, b in zip(one, other))


def has_loop(rows):
    return any(row[0] == "loop" or (row[0] == "fork" and (has_loop(row[2]) or has_loop(row[3]))) for row in rows)


class StepsTest(Fails, unittest.TestCase):
    def test_told(self):
        straight = 0
        for seed, book in enumerate(itertools.islice(itertools.cycle(BOOKS), 700)):
            program = Writer(book, seed).program(seed % 3, 5)
            once, by_rounds = told_at_once(book, program), told_by_rounds(book, program)
            self.assertFalse(has_lists((once, by_rounds)))
            self.assertEqual(once, least(book, program)[0])
            self.assertEqual(by_rounds, rounds(book, program))
            self.assertTrue(is_no_more(by_rounds[-1], once))
            for one, other in zip(by_rounds, by_rounds[1:]):
                self.assertTrue(is_no_more(one, other))
            if not has_loop(program[1]):
                self.assertEqual(by_rounds[-1], once)
                straight += 1
        self.assertGreater(straight, 90)

    def test_runs(self):
        """Each value in a run is told; what is told nobody to come to is in no run."""
        for seed, book in enumerate(itertools.islice(itertools.cycle(BOOKS), 200)):
            program = Writer(book, seed).program(2, 5)
            tellings = told_by_rounds(book, program) + (told_at_once(book, program),)
            for run in itertools.islice(all_runs(book, program, 2), 60):
                for told in tellings:
                    for thing, values in zip(told, run.trace):
                        self.assertTrue(thing is None or all(value == thing for value in values))

    def test_straight_programs(self):
        for seed, book in enumerate(itertools.islice(itertools.cycle(BOOKS), 60)):
            program = Writer(book, seed, True).program(2, 6)
            self.assertEqual(told_at_once(book, program), folded_values(book, program))
            self.assertEqual(told_by_rounds(book, program), (folded_values(book, program),))
        self.assertEqual((told_at_once((2, ()), ((), (), ())), told_by_rounds((2, ()), ((), (), ()))), ((), ((),)))

    def test_told_by_hand(self):
        book = (3, (LEAST, TURN))
        # The seen fork is barred by what is told of a pair: in the first round no test is looked at.
        fork = ("fork", (0, 1), (("told", 2),), (("told", 0), ("of", 1, (3,))), ((2, 4), (0, 0)))
        program = (((1,), (0, 1, 2)), (fork, ("fork", (5, 2), (("told", 1),), (), ((7, 0),))), ())
        self.assertEqual(told_at_once(book, program), (1, None, 2, -1, -1, 2, 1, 1, 1))
        self.assertEqual(told_by_rounds(book, program), ((1, None, 2, 0, 1, None, 1, 1, 1), (1, None, 2, -1, -1, 2, 1, 1, 1),
                                                         (1, None, 2, -1, -1, 2, 1, 1, 1)))
        # A loop of no turns: nobody comes to its rows; of one turn or more its heads meet what comes.
        for most, told in ((0, (0, 0, -1)), (1, (0, None, 1)), (None, (0, None, 1))):
            looped = ((), (("told", 0), ("loop", most, (0,), (("told", 1),), (2,))), (1,))
            self.assertEqual(told_at_once(book, looped), told)
            self.assertEqual(told_by_rounds(book, looped), (told,))
        # Forks without rows and pairs, side by side: each has its own sides.
        both = (((0, 1, 2),), (("told", 0), ("fork", (1, 0), (), (), ()), ("fork", (1, 1), (), (), ()),
                               ("fork", (1, 2), (("told", 1),), (("told", 2),), ((2, 3),))), (4,))
        self.assertEqual(told_at_once(book, both), (None, 0, -1, 2, 2))
        self.assertEqual(told_by_rounds(book, both)[1:], ((None, 0, -1, 2, 2),))
        within = ((), (("told", 0), ("fork", (0, 1), (("fork", (0, 0), (), (), ((0, 0),)),), (("fork", (0, 1), (), (), ((0, 0),)),),
                                     ())), ())
        self.assertEqual(told_at_once(book, within), (0, -1, 0))
        self.assertEqual(told_by_rounds(book, within), ((0, 0, 0), (0, -1, 0)))

    def test_round_rows(self):
        for many in list(range(1, 13)) + [60]:
            told = round_row(many)
            self.assertFalse(has_lists(told))
            book, program = told
            self.assertEqual(book[1], ())
            self.assertEqual(need_program(book, program), program)
            kinds = [row[0] for row in program[1]]
            self.assertEqual((kinds.count("fork"), kinds.count("loop")), (many, 0))
            for row in program[1]:
                if row[0] == "fork":
                    self.assertNotIn("fork", [one[0] for one in row[2] + row[3]])
            self.assertGreaterEqual(len(told_by_rounds(book, program)), many + 1)
            self.assertEqual(told_by_rounds(book, program)[-1], told_at_once(book, program))

    def test_loop_gap(self):
        self.assertFalse(has_lists(loop_gap()))
        book, program, number = loop_gap()
        self.assertEqual((book[1], need_program(book, program)), ((), program))
        self.assertTrue(has_loop(program[1]))
        self.assertIn(number, range(register_count(book, program)))
        self.assertIn(told_at_once(book, program)[number], range(book[0]))
        self.assertIs(told_by_rounds(book, program)[-1][number], None)

    def test_loops_that_bar_themselves(self):
        """A fork in a loop that bars what would open its own test: told at once alone, in loops one in another, too."""
        book = (3, (TURN,))
        for most, inner in itertools.product((0, 1, 2, None), (0, 2, None)):
            fork = ("fork", (1, 0), (), (("told", 1), ("of", 0, (2,))), ((0, 3),))
            single = ((), (("told", 0), ("loop", most, (0,), (fork,), (4,)), ("of", 0, (1,))), ())
            fork = ("fork", (2, 0), (("fork", (1, 2), (("told", 2),), (), ((3, 2),)),), (("told", 1),), ((4, 5),))
            double = ((), (("told", 0), ("loop", most, (0,), (("loop", inner, (1,), (fork,), (6,)),), (2,))), (1,))
            for program in (single, double):
                self.assertEqual(need_program(book, program), program)
                once, by_rounds = told_at_once(book, program), told_by_rounds(book, program)
                self.assertEqual(once, least(book, program)[0])
                self.assertEqual(by_rounds, rounds(book, program))
                self.assertEqual(once[1], 0)
                self.assertIs(by_rounds[-1][1], 0 if most == 0 or (program is double and inner == 0) else None)

    def test_wrong_inputs(self):
        for function in (told_at_once, told_by_rounds):
            for value in no_rows_of(2):
                self.fails_at(InvalidBook, -1, function, value, None)
            for value in no_rows_of(3) + [[(), (), ()]]:
                self.fails_at(InvalidProgram, -1, function, (2, ()), value)
            self.fails_at(InvalidProgram, 2, function, (2, ()), ((), (), (0,)))
            self.assertEqual(function(program=(((1,),), (), ()), book=in_lists((2, (AND,)))), function((2, ()), (((1,),), (), ())))
        for value in ANYTHING + (0, 61):
            if type(value) is not int or not 1 <= value <= 60:
                self.fails_size("many", round_row, value)
        self.assertEqual(round_row(many=2), round_row(2))

    def test_the_limits(self):
        program = Writer((4, ((2, tuple(max(0, one - two) for one in range(4) for two in range(4))),)), 9).program(2, 12)
        self.assertGreater(count(program[1]), 12)
        self.assertEqual(told_at_once((4, ((2, (0,) * 16),)), program), least((4, ((2, (0,) * 16),)), program)[0])


if __name__ == "__main__":
    unittest.main()
