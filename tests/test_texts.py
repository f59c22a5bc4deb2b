"""[7], [8]: texts of books and programs, with the fewest lines that give a row a name, read again."""

import itertools
import unittest

from foldsall.errors import InvalidBook, InvalidKey, InvalidProgram
from foldsall.levels import expression_text
from foldsall.reading import read_book, read_program
from foldsall.runs import run_values
from foldsall.texts import book_text, named_registers, program_text
from tests.helpers import (AND, ANYTHING, KEEP, LEAST, MOST, NOT, OR, TURN, XOR, Fails, Writer, count, has_lists, in_lists,
                           no_rows_of)
from tests.test_programs import BOOK, PROGRAM, random_programs

KEY = (("&", 3, "left"), "not")
WORDS = {2: "xy", 1: "f", 3: "g"}


def key_of(book, signs=True):
    """A key of a book: signs for operations of two places, of levels and sides by turns; else names."""
    key = []
    for number, (places, _) in enumerate(book[1]):
        if signs and places == 2:
            key.append(("+*&^"[number], 1 + number % 2, ("left", "right")[number % 2]))
        else:
            key.append("fghk"[number])
    return tuple(key)


class Spelled:
    """A plain writer of programs: rows with these registers are named, all others stand where they are read."""

    def __init__(self, book, key, program, named):
        self.book, self.key, self.named = book, key, named
        self.trees, self.lines = {}, []
        for number, values in enumerate(program[0]):
            self.lines.append(f"in r{number} : " + " ".join(map(str, values)))
        self.rows(program[1], len(program[0]))
        self.lines.append("out " + self.all(program[2]))
        self.text = "\n".join(self.lines)

    def tree(self, number):
        return self.trees.get(number, ("name", f"r{number}"))

    def all(self, numbers):
        return ", ".join(expression_text(self.book, self.key, self.tree(number)) for number in numbers)

    def rows(self, rows, number):
        for row in rows:
            if row[0] == "fork":
                self.lines.append("either" if row[1] is None else f"if {self.all(row[1][:1])} = {row[1][1]}")
                begin = number + count(row[2])
                pair = begin + count(row[3])
                for at, rows_of, end in ((number, row[2], "else"), (begin, row[3], "end")):
                    self.rows(rows_of, at)
                    if row[4]:
                        self.lines.append("give " + self.all([one[end == "end"] for one in row[4]]))
                    self.lines.append(end)
                self.lines[-1] += " " + ", ".join(f"r{pair + at}" for at in range(len(row[4])))
            elif row[0] == "loop":
                heads = [f"r{number + at} = {self.all([first])}" for at, first in enumerate(row[2])]
                self.lines.append(f"loop {'' if row[1] is None else row[1]} " + ", ".join(heads))
                self.rows(row[3], number + len(heads))
                self.lines.append("again " + self.all(row[4]))
                self.lines.append("end")
            else:
                tree = ("value", row[1]) if row[0] == "told" else ("of", row[1], tuple(map(self.tree, row[2])))
                if number in self.named:
                    self.lines.append(f"r{number} = " + expression_text(self.book, self.key, tree))
                else:
                    self.trees[number] = tree
            number += count([row])


def row_registers(rows, number):
    """The registers of all told rows and rows of operations."""
    found = []
    for row in rows:
        if row[0] == "fork":
            found += row_registers(row[2], number) + row_registers(row[3], number + count(row[2]))
        elif row[0] == "loop":
            found += row_registers(row[3], number + len(row[2]))
        else:
            found.append(number)
        number += count([row])
    return found


def is_text_of(book, key, program, text):
    """Whether a text is read as a program."""
    from foldsall.errors import InvalidText
    try:
        return read_program(book, key, text) == program
    except InvalidText:
        return False


class ProgramTextTest(Fails, unittest.TestCase):
    def test_told_texts(self):
        self.assertEqual(program_text(BOOK, KEY, PROGRAM), "\n".join((
            "in r0", "in r1 : 1", "if r0 = 1", " r2 = not(r0)", " give r2, r0, r2", "else", " give 0, 1, r1",
            "end r5, r6, r7", "loop r8 = r0, r9 = r7", " again r8 & r9, not(r9)", "end", "out r9, r5")))
        self.assertEqual(named_registers(BOOK, PROGRAM), (2,))
        self.assertEqual(program_text((2, ()), (), ((), (), ())), "out")
        self.assertEqual(program_text((3, ()), (), (((0, 1, 2), (0, 2)), (), (1, 0, 1))),
                         "in r0\nin r1 : 0 2\nout r1, r0, r1")
        deep = (((0, 1),), (("loop", 12, (0,), (("fork", None, (("told", 1),), (("fork", (1, 0), (), (), ()),), ()),),
                             (1,)),), ())
        self.assertEqual(program_text(BOOK, KEY, deep), "\n".join((
            "in r0", "loop 12 r1 = r0", " either", "  r2 = 1", " else", "  if r1 = 0", "  else", "  end", " end",
            " again r1", "end", "out")))

    def test_rows_in_expressions(self):
        for rows, ends, text, named in (
                ((("told", 1),), (1,), "out 1", ()), ((("told", 1),), (), "r1 = 1\nout", (1,)),
                ((("told", 1),), (1, 1), "r1 = 1\nout r1, r1", (1,)),
                ((("told", 1), ("told", 0)), (1, 2), "out 1, 0", ()),
                ((("told", 1), ("told", 0)), (2, 1), "r1 = 1\nout 0, r1", (1,)),
                ((("told", 1), ("of", 1, (1,)), ("of", 0, (2, 0))), (3, 0), "out not(1) & r0, r0", ()),
                ((("told", 1), ("of", 1, (0,)), ("of", 0, (1, 2))), (3,), "out 1 & not(r0)", ()),
                ((("told", 1), ("of", 1, (0,)), ("of", 0, (2, 1))), (3,), "r1 = 1\nout not(r0) & r1", (1,)),
                ((("told", 1), ("of", 0, (1, 1))), (2,), "r1 = 1\nout r1 & r1", (1,)),
                ((("told", 1), ("fork", (1, 1), (), (), ()), ("told", 0)), (2, 0),
                 "if 1 = 1\nelse\nend\nout 0, r0", ()),
                ((("of", 1, (0,)), ("fork", (1, 0), (), (), ())), (), "if not(r0) = 0\nelse\nend\nout", ()),
                ((("told", 1), ("fork", (1, 1), (), (), ((0, 1),))), (2,),
                 "r1 = 1\nif r1 = 1\n give r0\nelse\n give r1\nend r2\nout r2", (1,)),
                ((("told", 1), ("fork", None, (("told", 0),), (("told", 1),), ((2, 3),))), (4, 1),
                 "r1 = 1\neither\n give 0\nelse\n give 1\nend r4\nout r4, r1", (1,)),
                ((("told", 1), ("loop", 0, (1, 0), (("of", 1, (2,)), ("told", 0)), (4, 5))), (3,),
                 "loop 0 r2 = 1, r3 = r0\n again not(r2), 0\nend\nout r3", ()),
                ((("told", 1), ("loop", None, (0,), (), (1,))), (), "r1 = 1\nloop r2 = r0\n again r1\nend\nout", (1,))):
            program = (((0, 1),), rows, ends)
            self.assertEqual(program_text(BOOK, KEY, program), "in r0\n" + text)
            self.assertEqual(named_registers(BOOK, program), named)

    def test_read_again_it_is_the_program(self):
        for at, (book, program) in enumerate(random_programs(400)):
            key = key_of(book, at % 3 > 0)
            text = program_text(book, key, program)
            self.assertEqual(read_program(book, key, text), program)
            self.assertEqual(sum(1 for line in text.split("\n") if line.split()[0] not in (
                "in", "if", "either", "else", "end", "give", "loop", "again", "out")), len(named_registers(book, program)))
            self.assertEqual(Spelled(book, key, program, named_registers(book, program)).text.count("\n"),
                             text.count("\n"))

    def test_each_text_names_these(self):
        seen = 0
        for at, (book, program) in enumerate(random_programs(260)):
            key = key_of(book, at % 3 > 0)
            rows = row_registers(program[1], len(program[0]))
            if len(rows) > 7:
                continue
            found = []
            for many in range(len(rows) + 1):
                for named in itertools.combinations(rows, many):
                    if is_text_of(book, key, program, Spelled(book, key, program, named).text):
                        found.append(named)
            named = named_registers(book, program)
            self.assertEqual(found[0], named)
            self.assertTrue(all(set(named) <= set(other) for other in found))
            self.assertEqual(found[-1], tuple(rows))
            seen += len(named) < len(rows)
        self.assertGreater(seen, 60)

    def test_long_programs(self):
        rows = tuple(("of", 1, (at,)) for at in range(700))
        text = program_text(BOOK, KEY, (((0, 1),), rows, (700,)))
        self.assertEqual(text, "in r0\nout " + "not(" * 700 + "r0" + ")" * 700)
        self.assertEqual(read_program(BOOK, KEY, text)[1], rows)

    def test_names_and_lists(self):
        told = program_text(BOOK, KEY, PROGRAM)
        self.assertEqual(program_text(program=PROGRAM, key=[["&", 3, "left"], "not"], book=[2, [AND, [1, [1, 0]]]]), told)
        self.assertEqual(named_registers(program=PROGRAM, book=in_lists(BOOK)), (2,))
        self.assertFalse(has_lists(named_registers(BOOK, PROGRAM)))

    def test_wrong_inputs(self):
        for value in no_rows_of(2):
            self.fails_at(InvalidBook, -1, program_text, value, None, None)
            self.fails_at(InvalidBook, -1, named_registers, value, None)
            self.fails_at(InvalidKey, -1, program_text, BOOK, value, None)
        self.fails_at(InvalidKey, 1, program_text, BOOK, (("&", 3, "left"), "r2"), None)
        self.fails_at(InvalidKey, 0, program_text, BOOK, ("end", "r2"), None)
        for value in no_rows_of(3):
            self.fails_at(InvalidProgram, -1, program_text, BOOK, KEY, value)
            self.fails_at(InvalidProgram, -1, named_registers, BOOK, value)
        for at, program in ((0, (((),), (), ())), (1, ((), (("told", 2),), ())), (2, ((), (), (0,))), (-1, [(), (), ()])):
            self.fails_at(InvalidProgram, at, program_text, BOOK, KEY, program)
            self.fails_at(InvalidProgram, at, named_registers, BOOK, program)


class BookTextTest(Fails, unittest.TestCase):
    def test_told_texts(self):
        self.assertEqual(book_text((3, (LEAST,)), ("min",)), "size 3\nmin 2 : 0 0 0 0 1 1 0 1 2")
        self.assertEqual(book_text((2, (OR, NOT)), (("+", 4, "left"), "not")), "size 2\n+ 4 left : 0 1 1 1\nnot 1 : 1 0")
        self.assertEqual(book_text((8, ()), ()), "size 8")
        self.assertEqual(book_text((3, (TURN, MOST, MOST)), ["r", ["$", 9, "right"], "r1a"]),
                         "size 3\nr 1 : 1 2 0\n$ 9 right : 0 1 2 1 1 2 2 2 2\nr1a 2 : 0 1 2 1 1 2 2 2 2")

    def test_read_again_it_is_the_book(self):
        for size in range(2, 9):
            for places in (1, 2, 3):
                answers = tuple(at * at % size for at in range(size ** places))
                book = (size, ((places, answers),) * 3)
                self.assertEqual(read_book(book_text(book, ("a", "r", "b2"))), (book, ("a", "r", "b2")))
                if places == 2:
                    key = (("@", 9, "right"), "k", ("!", 9, "right"))
                    self.assertEqual(read_book(book_text(book, key)), (book, key))
        signs = tuple((sign, level % 9 + 1, ("left", "right")[level % 2]) for level, sign in enumerate("+-*/&|^<"))
        for key in (signs, signs[::-1], tuple((sign, 1, "left") for sign in ">!@~$+-*")):
            book = (2, (AND, OR, XOR, AND, OR, XOR, AND, OR))
            self.assertEqual(read_book(book_text(book, key)), (book, key))

    def test_lists(self):
        self.same_in_lists(book_text, (2, (OR, NOT)), (("+", 4, "left"), "not"))

    def test_wrong_inputs(self):
        for value in no_rows_of(2):
            self.fails_at(InvalidBook, -1, book_text, value, None)
            self.fails_at(InvalidKey, -1, book_text, (2, (OR, KEEP)), value)
        self.fails_at(InvalidBook, 1, book_text, (2, (OR, (2, (0, 1)))), None)
        for value in ANYTHING:
            if value != "" and value != "told":
                self.fails_at(InvalidKey, 0, book_text, (2, (OR, KEEP)), (value, value))
        self.fails_at(InvalidKey, 1, book_text, (2, (OR, KEEP)), ("told", "told"))
        self.fails_at(InvalidKey, 1, book_text, (2, (OR, KEEP)), ("told", ("+", 1, "left")))


class ExampleTest(unittest.TestCase):
    def test_texts_run_as_their_program(self):
        for at, (book, program) in enumerate(random_programs(60, True)):
            text = program_text(book, key_of(book), program)
            again = read_program(book, key_of(book), text)
            values = [lot[0] for lot in program[0]]
            self.assertEqual(run_values(book, again, values, ()), run_values(book, program, values, ()))

    def test_random_wider_programs(self):
        book = (3, (LEAST, MOST, TURN, (3, tuple(sum(row) % 3 for row in itertools.product(range(3), repeat=3)))))
        for seed in range(60):
            program = Writer(book, seed).program(3, 12)
            self.assertEqual(read_program(book, key_of(book), program_text(book, key_of(book), program)), program)


if __name__ == "__main__":
    unittest.main()
