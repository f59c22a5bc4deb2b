"""[9], [10]: programs, their registers, put behind one another, unrolled."""

import itertools
import random
import unittest

from foldsall.errors import InvalidBook, InvalidProgram, InvalidSize
from foldsall.programs import is_straight, need_program, put_behind, register_count, register_sources, unrolled
from tests.helpers import (AND, ANYTHING, KEEP, LEAST, NOT, TURN, XOR, Fails, Run, Wanted, Writer, all_runs, changed,
                           count, no_rows_of)

BOOK = (2, (AND, NOT))
FORK = ("fork", (0, 1), (("of", 1, (0,)),), (("told", 0), ("told", 1)), ((2, 3), (0, 4), (2, 1)))
LOOP = ("loop", None, (0, 7), (("of", 0, (8, 9)), ("of", 1, (9,))), (10, 11))
PROGRAM = (((0, 1), (1,)), (FORK, LOOP), (9, 5))
BOOKS = ((2, (AND, NOT)), (2, ()), (3, (LEAST, TURN)), (2, (XOR, KEEP, (3, (0, 1, 1, 0, 1, 0, 0, 1)))))


def random_programs(many, straight=False):
    for seed in range(many):
        book = BOOKS[seed % len(BOOKS)]
        dice = random.Random(seed)
        yield book, Writer(book, seed, straight).program(dice.randrange(4), dice.randrange(6))


class NeedProgramTest(Fails, unittest.TestCase):
    def right(self, program, book=BOOK):
        self.assertEqual(need_program(book, program), program)

    def wrong(self, at, program, book=BOOK):
        self.fails_at(InvalidProgram, at, need_program, book, program)
        for function in (register_count, is_straight, register_sources):
            self.fails_at(InvalidProgram, at, function, book, program)

    def row(self, row, fits, inputs=((0, 1), (1,)), ahead=()):
        """Whether a row may stand behind two inputs and some rows."""
        (self.right if fits else lambda program: self.wrong(1, program))((inputs, ahead + (row,), ()))

    def test_programs(self):
        self.right(PROGRAM)
        self.right(((), (), ()))
        self.right((((0,), (0, 1)), (), (1, 1, 0)))
        self.right(((), (("told", 1),), (0,)))
        for book, program in random_programs(300):
            self.right(program, book)

    def test_wholes(self):
        for value in no_rows_of(3) + [(1, 2), list(PROGRAM), [(), (), ()], PROGRAM + ((),), (None,) * 4]:
            self.wrong(-1, value)

    def test_inputs(self):
        for value in list(ANYTHING) + [((2,),), ((1, 0),), ((0, 0),), ([0, 1],), [(0, 1)], ((),), ((True,),), ((0, 1, 2),),
                                       ("01",), ((0, None),), ((0, 1), 1)]:
            if value != ():
                self.wrong(0, (value, None, None))
        self.right((((0, 2), (1,)), (), ()), (3, ()))

    def test_rows_and_ends(self):
        for value in ANYTHING:
            if value != ():
                self.wrong(1, (((0, 1),), value, None))
            self.wrong(1, (((0, 1),), (value,), None))
        for value in list(ANYTHING) + [(1,), (-1,), (True,), [0], (0, 1), ("0",), ((0,),)]:
            if value != ():
                self.wrong(2, (((0, 1),), (), value))

    def test_told_and_of(self):
        for row, fits in ((("told", 0), True), (("told", 1), True), (("told", 2), False), (("told", True), False),
                          (("told",), False), (("told", 0, 0), False), (["told", 0], False), (("tell", 0), False),
                          (("of", 0, (0, 1)), True), (("of", 0, (1, 1)), True), (("of", 1, (1,)), True),
                          (("of", 0, (0,)), False), (("of", 1, (0, 1)), False), (("of", 2, (0,)), False),
                          (("of", True, (0,)), False), (("of", -1, (0,)), False), (("of", 1, (2,)), False),
                          (("of", 1, (-1,)), False), (("of", 1, (False,)), False), (("of", 1, [0]), False),
                          (("of", 1, 0), False), (("of", 1), False), (("of", 1, (0,), 0), False),
                          (("off", 1, (0,)), False), (("told", 1, (0,)), False), (("of", 1), False),
                          ((None, 1), False), (((), 1), False)):
            self.row(row, fits)

    def test_forks(self):
        told = ("told", 0)
        for row, fits in ((("fork", None, (), (), ()), True), (("fork", (0, 1), (), (), ((0, 1),)), True),
                          (("fork", (1, 0), (told,), (), ((2, 0), (0, 1), (2, 1))), True),
                          (("fork", None, (told,), (told,), ((2, 3), (0, 3))), True),
                          # A pair reads its own side alone, and no other pair of its fork.
                          (("fork", None, (told,), (told,), ((3, 3),)), False),
                          (("fork", None, (told,), (told,), ((2, 2),)), False),
                          (("fork", None, (told,), (told,), ((2, 3), (4, 3))), False),
                          (("fork", None, (told,), (told,), ((2, 3), (2, 4))), False),
                          # The second rows don't see the first ones, nor what comes behind.
                          (("fork", None, (told,), (("of", 1, (2,)),), ()), False),
                          (("fork", None, (told, ("of", 1, (2,))), (("of", 1, (0,)),), ()), True),
                          (("fork", None, (("of", 1, (2,)),), (), ()), False),
                          (("fork", (2, 1), (), (), ()), False), (("fork", (0, 2), (), (), ()), False),
                          (("fork", (0, True), (), (), ()), False), (("fork", [0, 1], (), (), ()), False),
                          (("fork", (0,), (), (), ()), False), (("fork", (True, 1), (), (), ()), False),
                          (("fork", 0, (), (), ()), False), (("fork", (), (), (), ()), False),
                          (("fork", None, [], (), ()), False), (("fork", None, (), None, ()), False),
                          (("fork", None, (), (), []), False), (("fork", None, (), (), ([0, 1],)), False),
                          (("fork", None, (), (), ((0,),)), False), (("fork", None, (), (), ((0, 1, 0),)), False),
                          (("fork", None, (), ()), False), (("fork", None, (), (), (), ()), False),
                          (("fork", None, (None,), (), ()), False), (("fork", None, (), (told, ("told", 2)), ()), False)):
            self.row(row, fits)
        # What a fork's rows make isn't seen behind it, its pairs are.
        ahead = (("fork", None, (told,), (told,), ((2, 3),)),)
        for number, fits in ((2, False), (3, False), (4, True), (5, False), (0, True)):
            self.row(("of", 1, (number,)), fits, ahead=ahead)
        # A pair doesn't read what rows within its own make, but their pairs and heads.
        within = ("fork", None, (told,), (told,), ((2, 3),))
        self.row(("fork", None, (within,), (), ((4, 0),)), True)
        self.row(("fork", None, (within,), (), ((3, 0),)), False)
        self.row(("fork", None, (), (("loop", 1, (0,), (told,), (3,)),), ((0, 2),)), True)
        self.row(("fork", None, (), (("loop", 1, (0,), (told,), (3,)),), ((0, 3),)), False)

    def test_loops(self):
        told = ("told", 0)
        for row, fits in ((("loop", None, (0,), (), (0,)), True), (("loop", 0, (0, 1), (), (3, 2)), True),
                          (("loop", 10 ** 9, (1, 1), (told,), (4, 1)), True),
                          (("loop", 2, (0,), (("of", 1, (2,)),), (3,)), True),
                          # Agains read the loop's rows and its heads, firsts what is ahead.
                          (("loop", 2, (2,), (), (0,)), False), (("loop", 2, (3,), (told,), (0,)), False),
                          (("loop", 2, (0,), (told,), (4,)), False),
                          (("loop", 2, (0,), (("of", 1, (3,)),), (3,)), False),
                          (("loop", -1, (0,), (), (0,)), False), (("loop", True, (0,), (), (0,)), False),
                          (("loop", "1", (0,), (), (0,)), False), (("loop", 1, (), (), ()), False),
                          (("loop", 1, (0,), (), ()), False), (("loop", 1, (0,), (), (0, 0)), False),
                          (("loop", 1, [0], (), (0,)), False), (("loop", 1, (0,), (), [0]), False),
                          (("loop", 1, (0,), [], (0,)), False), (("loop", 1, (0,), None, (0,)), False),
                          (("loop", 1, (True,), (), (0,)), False), (("loop", 1, (0,), (), (True,)), False),
                          (("loop", 1, (0,), ()), False), (("loop", 1, 0, (), 0), False),
                          (("lop", 1, (0,), (), (0,)), False), ((None, 1, (0,), (), (0,)), False),
                          (("of", None, (), (), ()), False), (("told", 1, (0,), (), (0,)), False)):
            self.row(row, fits)
        # Heads are seen behind a loop, its rows are not.
        ahead = (("loop", None, (0,), (told,), (3,)),)
        for number, fits in ((2, True), (3, False), (4, False)):
            self.row(("of", 1, (number,)), fits, ahead=ahead)
        inner = ("loop", None, (2,), (told,), (3,))
        self.row(("loop", 1, (0,), (inner,), (3,)), True)
        self.row(("loop", 1, (0,), (inner,), (4,)), False)
        self.row(("loop", 1, (0,), (("fork", None, (told,), (), ((3, 2),)),), (4,)), True)
        self.row(("loop", 1, (0,), (("fork", None, (told,), (), ((3, 2),)),), (3,)), False)
        self.wrong(2, (((0, 1),), (("loop", 1, (0,), (told,), (2,)),), (2,)))
        self.right((((0, 1),), (("loop", 1, (0,), (told,), (2,)),), (1,)))

    def test_changed_programs(self):
        for program in changed(PROGRAM):
            try:
                self.assertIs(need_program(BOOK, program), program)
                self.assertEqual(len(register_sources(BOOK, program)), register_count(BOOK, program))
            except InvalidProgram as error:
                self.assertIn(error.at, (-1, 0, 1, 2))

    def test_wrong_books(self):
        for value in no_rows_of(2):
            for function in (need_program, register_count, is_straight, register_sources):
                self.fails_at(InvalidBook, -1, function, value, None)
            self.fails_at(InvalidBook, -1, put_behind, value, None, None)
            self.fails_at(InvalidBook, -1, unrolled, value, None, None)
        self.fails_at(InvalidBook, 1, need_program, (2, (NOT, LEAST)), None)


class SourcesTest(Fails, unittest.TestCase):
    def test_told_sources(self):
        self.assertEqual(register_sources(BOOK, PROGRAM), (
            ("list", (0, 1)), ("list", (1,)), ("of", 1, (0,)), ("told", 0), ("told", 1), ("either", 2, 3),
            ("either", 0, 4), ("either", 2, 1), ("either", 0, 10), ("either", 7, 11), ("of", 0, (8, 9)), ("of", 1, (9,))))
        self.assertEqual(register_count(BOOK, PROGRAM), 12)
        self.assertEqual(register_sources([2, [list(AND), NOT]], ((), (), ())), ())
        self.assertEqual(register_count(book=BOOK, program=((), (), ())), 0)

    def test_straight(self):
        self.assertIs(is_straight(BOOK, PROGRAM), False)
        self.assertIs(is_straight(BOOK, (((0, 1),), (), ())), True)
        self.assertIs(is_straight(BOOK, (((0, 1),), (("of", 1, (0,)), ("told", 1)), ())), True)
        self.assertIs(is_straight(BOOK, (((0, 1),), (("fork", None, (), (), ()),), ())), False)
        self.assertIs(is_straight(BOOK, (((0, 1),), (("told", 0), ("loop", 0, (0,), (), (0,))), ())), False)

    def test_counts(self):
        for book, program in random_programs(200):
            self.assertEqual(register_count(book, program), len(program[0]) + count(program[1]))
            self.assertEqual(len(register_sources(book, program)), register_count(book, program))


class PutBehindTest(Fails, unittest.TestCase):
    def test_told_program(self):
        one = (((0, 1), (1,)), (("of", 0, (0, 1)),), (2, 0))
        other = (((0,), (1,)), (FORK, ("of", 1, (7,))), (8, 0, 1))
        moved = ("fork", (2, 1), (("of", 1, (2,)),), (("told", 0), ("told", 1)), ((3, 4), (2, 5), (3, 0)))
        self.assertEqual(put_behind(BOOK, one, other),
                         (one[0], one[1] + (moved, ("of", 1, (8,))), (9, 2, 0)))
        self.assertEqual(put_behind(BOOK, PROGRAM, (((0,), (1,)), (), (1,))), (PROGRAM[0], PROGRAM[1], (5,)))

    def test_runs_one_behind_the_other(self):
        done = 0
        for (book, one), seed in zip(random_programs(160), itertools.count()):
            other = Writer(book, seed + 1000).program(len(one[2]), 3)
            whole = put_behind(book, one, other)
            self.assertEqual(need_program(book, whole), whole)
            self.assertEqual(register_count(book, whole),
                             register_count(book, one) + register_count(book, other) - len(other[0]))
            for run in itertools.islice(all_runs(book, one, 1), 6):
                for choices in itertools.product(range(2), repeat=2):
                    try:
                        behind = Run(book, other, run.ends, list(choices), 1)
                        both = Run(book, whole, [trace[0] for trace in run.trace[:len(one[0])]],
                                   run.choices + list(choices)[:behind.taken], 1)
                    except (Wanted, IndexError):
                        continue
                    self.assertEqual(both.ends, behind.ends)
                    done += 1
        self.assertGreater(done, 300)

    def test_wrong_programs(self):
        one = (((0, 1),), (), (0,))
        for value in no_rows_of(3):
            self.fails_at(InvalidProgram, -1, put_behind, BOOK, value, None)
            self.fails_at(InvalidProgram, -1, put_behind, BOOK, one, value)
        self.fails_at(InvalidProgram, 2, put_behind, BOOK, (((0, 1),), (), (1,)), None)
        self.fails_at(InvalidProgram, 1, put_behind, BOOK, one, (((0, 1), (0,)), (None,), ()))
        self.fails_at(InvalidProgram, 0, put_behind, BOOK, one, (((0, 1), (0,)), (), ()))
        self.fails_at(InvalidProgram, 0, put_behind, BOOK, one, ((), (), ()))
        self.fails_at(InvalidProgram, 0, put_behind, BOOK, (((0, 1),), (), ()), one)
        self.fails_at(InvalidProgram, 2, put_behind, BOOK, one, (((0, 1), (0,)), (), (9,)))


class UnrolledTest(Fails, unittest.TestCase):
    def test_told_programs(self):
        book = (3, (TURN,))
        program = (((0, 1),), (("loop", None, (0,), (("of", 0, (1,)),), (2,)),), (1,))
        self.assertEqual(unrolled(book, program, 0), ((((0, 1),), (), (0,)), ((0,), (0,), ())))
        inner = ("fork", None, (), (("of", 0, (1,)),), ((1, 2),))
        whole = (((0, 1),), (("fork", None, (), (("of", 0, (0,)), inner), ((0, 3),)),), (4,))
        self.assertEqual(unrolled(book, program, 2), (whole, ((0,), (0, 1, 2, 3, 4), (1, 2))))
        # A told most stands against any turns.
        told = (((0, 1),), (("loop", 2, (0,), (("of", 0, (1,)),), (2,)),), (1,))
        for turns in (0, 1, 5):
            self.assertEqual(unrolled(book, told, turns), unrolled(book, program, 2))

    def test_heads_turn_all_at_once(self):
        book = (2, ())
        program = (((0,), (1,)), (("loop", 1, (0, 1), (), (3, 2)),), (2, 3))
        self.assertEqual(unrolled(book, program, 0), (
            (((0,), (1,)), (("fork", None, (), (), ((0, 1), (1, 0))),), (2, 3)), ((0,), (1,), (0, 1, 2), (0, 1, 3))))

    def test_runs_go_one_to_one(self):
        for book, program in random_programs(250):
            many = 0
            whole, copies = unrolled(book, program, 2)
            self.assertEqual(need_program(book, whole), whole)
            self.assertEqual(len(copies), register_count(book, program))
            heads = self.heads(program[1], len(program[0]))
            for run in itertools.islice(all_runs(book, program, 2), 150):
                many += 1
                values = [trace[0] for trace in run.trace[:len(program[0])]]
                other = Run(book, whole, values, run.unrolled, 0)
                self.assertEqual(other.taken, len(run.unrolled))
                self.assertEqual(other.ends, run.ends)
                for number, trace in enumerate(run.trace):
                    shown = {value for copy in copies[number] for value in other.trace[copy]}
                    if number in heads:
                        self.assertLessEqual(set(trace), shown)
                    else:
                        self.assertEqual(set(trace), shown)
            if many < 150:
                self.assertEqual(len(list(all_runs(book, whole, 0))), many)

    def heads(self, rows, number):
        found = set()
        for row in rows:
            if row[0] == "loop":
                found |= set(range(number, number + len(row[2])))
                found |= self.heads(row[3], number + len(row[2]))
            elif row[0] == "fork":
                found |= self.heads(row[2], number) | self.heads(row[3], number + count(row[2]))
            number += count([row])
        return found

    def test_copies_are_ascending_and_all(self):
        for book, program in random_programs(200):
            whole, copies = unrolled(book, program, 1)
            for lot in copies:
                self.assertEqual(list(lot), sorted(set(lot)))
            self.assertEqual({copy for lot in copies for copy in lot}, set(range(register_count(book, whole))))
            for row in self.all_rows(whole[1]):
                self.assertNotEqual(row[0], "loop")

    def all_rows(self, rows):
        for row in rows:
            yield row
            if row[0] == "fork":
                yield from self.all_rows(row[2] + row[3])

    def test_wrong_inputs(self):
        for value in no_rows_of(3):
            self.fails_at(InvalidProgram, -1, unrolled, BOOK, value, None)
        for turns in ANYTHING:
            if type(turns) is not int or turns < 0:
                self.fails_size("turns", unrolled, BOOK, PROGRAM, turns)
                self.fails_size("turns", unrolled, BOOK, ((), (), ()), turns)
        self.assertEqual(unrolled(BOOK, ((), (), ()), 10 ** 30), (((), (), ()), ()))
        self.assertEqual(unrolled(turns=1, program=PROGRAM, book=[2, [AND, list(NOT)]]), unrolled(BOOK, PROGRAM, 1))


if __name__ == "__main__":
    unittest.main()
