"""[44], [45]: how many turns are enough, and programs that show that fewer are not."""

import itertools
import math
import unittest

from foldsall.errors import InvalidBook, InvalidProgram
from foldsall.folding import kept_sets
from foldsall.joins import let_part
from foldsall.loops import bounded_program, let_many, seen_program, turns_enough, turns_program
from foldsall.programs import need_program
from foldsall.runs import shown_values
from tests.helpers import (ANYTHING, KEEP, NOT, TURN, Fails, Writer, all_operations, has_lists, in_lists, no_rows_of, rows_of)
from tests.test_joins import Free

FIRST = (2, tuple(row[0] for row in rows_of(3, 2)))
ONE_PLACE = ((2, (NOT, KEEP)), (3, (TURN,)), (3, ((1, (0, 0, 2)), FIRST)), (2, ()), (3, ((1, (1, 2, 2)), (2, (2,) * 9))))


class Unseen(Writer):
    """Random programs whose forks are unseen; loops of any number and of told ones."""

    def fork(self, seen, deep):
        row = Writer.fork(self, seen, deep)
        return row[:1] + (None,) + row[2:]


def bounded(size, rows):
    found = []
    for row in rows:
        if row[0] == "fork":
            row = row[:2] + (bounded(size, row[2]), bounded(size, row[3]), row[4])
        elif row[0] == "loop":
            most = len(row[2]) * (size - 1) + 1 if row[1] is None else row[1]
            row = ("loop", most, row[2], bounded(size, row[3]), row[4])
        found.append(row)
    return tuple(found)


def with_most(program, most):
    """The same, with another most told to its one loop."""
    rows = tuple(("loop", most) + row[2:] if row[0] == "loop" else row for row in program[1])
    return (program[0], rows, program[2])


class TurnsTest(Fails, unittest.TestCase):
    def test_turns_enough(self):
        for size, heads in itertools.product(range(2, 9), range(1, 9)):
            self.assertEqual(turns_enough(size, heads), heads * (size - 1) + 1)

    def test_bounded(self):
        several = 0
        for seed, book in enumerate(itertools.islice(itertools.cycle(ONE_PLACE), 300)):
            program = Writer(book, seed).program(seed % 3, 6)
            told = bounded_program(book, program)
            self.assertEqual(told, (program[0], bounded(book[0], program[1]), program[2]))
            self.assertEqual(need_program(book, told), told)
            several += told != program
        self.assertGreater(several, 100)
        deep = ((), (("told", 0), ("loop", None, (0, 0), (("fork", None, (("loop", None, (1,), (), (1,)),),
                                                          (("loop", 0, (2,), (("loop", None, (2,), (), (4,)),), (2,)),), ()),),
                                   (1, 2))), ())
        self.assertEqual(bounded_program((3, ()), deep), ((), bounded(3, deep[1]), ()))

    def test_what_is_shown_then(self):
        free = 0
        for seed, book in enumerate(itertools.islice(itertools.cycle(ONE_PLACE), 200)):
            program = (Free if seed % 2 else Unseen)(book, seed).program(2, 6)
            shown = shown_values(book, bounded_program(book, program))
            self.assertEqual(shown, shown_values(book, program))
            if seed % 2:
                self.assertEqual(shown, kept_sets(book, program))
                free += 1
        self.assertEqual(free, 100)

    def test_no_lesser_number_is_enough(self):
        for size, heads in list(itertools.product((2, 3, 4), (1, 2, 3))) + [(8, 1), (5, 2), (2, 8)]:
            told = turns_program(size, heads)
            self.assertFalse(has_lists(told))
            book, program, number, value = told
            self.assertEqual(need_program(book, program), program)
            self.assertEqual((book[0], [one[0] for one in book[1]]), (size, [1]))
            loops = [row for row in program[1] if row[0] == "loop"]
            self.assertEqual([row[0] for row in program[1] if row[0] in ("fork", "loop")], ["loop"])
            self.assertTrue(all(row[0] in ("told", "of") for row in loops[0][3]))
            self.assertEqual((len(loops[0][2]), loops[0][1]), (heads, turns_enough(size, heads) - 1))
            self.assertIn(value, kept_sets(book, program)[number])
            self.assertNotIn(value, shown_values(book, program)[number])
            self.assertIn(value, shown_values(book, with_most(program, turns_enough(size, heads)))[number])
            self.assertIn(value, shown_values(book, with_most(program, None))[number])

    def test_wrong_inputs(self):
        for function in (turns_enough, turns_program):
            for value in ANYTHING + (1, 9):
                if type(value) is not int or not 2 <= value <= 8:
                    self.fails_size("size", function, value, None)
                if type(value) is not int or not 1 <= value <= 8:
                    self.fails_size("heads", function, 3, value)
            self.assertEqual(function(heads=2, size=3), function(3, 2))
        for value in no_rows_of(2):
            self.fails_at(InvalidBook, -1, bounded_program, value, None)
        for value in no_rows_of(3) + [[(), (), ()]]:
            self.fails_at(InvalidProgram, -1, bounded_program, (2, ()), value)
        self.fails_at(InvalidProgram, 1, bounded_program, (2, ()), ((), (("loop", None, (0,), (), (0,)),), ()))
        program = (((0, 1),), (("loop", None, (0,), (), (0,)),), (1,))
        told = bounded_program(program=program, book=in_lists((2, (NOT,))))
        self.assertEqual(told, (((0, 1),), (("loop", 2, (0,), (), (0,)),), (1,)))


class SeenTest(Fails, unittest.TestCase):
    def test_seen_programs(self):
        for size in range(2, 9):
            told = seen_program(size)
            self.assertFalse(has_lists(told))
            program, number, value = told
            self.assertEqual(need_program((size, ()), program), program)
            self.assertIn("fork", [row[0] for row in program[1]])
            for row in program[1]:
                self.assertIn(row[0], ("told", "fork"))
                self.assertTrue(row[0] == "told" or row[1] is not None)
            self.assertIn(value, kept_sets((size, ()), program)[number])
            self.assertNotIn(value, shown_values((size, ()), program)[number])

    def test_let_many(self):
        for size, places in itertools.product(range(2, 9), (1, 2, 3)):
            self.assertEqual(let_many(size, places, "exact"), size + places * (size ** size - size))
            self.assertEqual(let_many(size, places, "finds"), size + places * math.factorial(size))
        for size, places in ((2, 1), (2, 2), (2, 3), (3, 1), (3, 2)):
            operations = all_operations(size, places)
            for word in ("exact", "finds"):
                let = sum(let_part((size, (one,)), word) == (0,) for one in operations)
                self.assertEqual(let_many(size, places, word), let)

    def test_wrong_inputs(self):
        for value in ANYTHING + (9,):
            if type(value) is not int or not 2 <= value <= 8:
                self.fails_size("size", seen_program, value)
                self.fails_size("size", let_many, value, None, None)
            if type(value) is not int or not 1 <= value <= 3:
                self.fails_size("places", let_many, 3, value, None)
            self.fails_size("word", let_many, 3, 1, value)
        for value in ("Exact", "find", ["exact"], ("finds",)):
            self.fails_size("word", let_many, 3, 1, value)
        self.fails_size("places", let_many, 3, 4, "exact")
        self.assertEqual(let_many(word="finds", places=2, size=3), 15)
        self.assertEqual(seen_program(size=2), seen_program(2))


if __name__ == "__main__":
    unittest.main()
