"""[54]: programs that fit shapes, the shapes of programs, and programs that miss something where there is no cut."""

import itertools
import math
import random
import unittest

from foldsall.cuts import cut_holds, cut_paper, is_cut
from foldsall.errors import InvalidBook, InvalidLot, InvalidProgram, InvalidShape, InvalidSize, Refused
from foldsall.missed import is_grounded
from foldsall.programs import need_program
from foldsall.runs import shown_values
from foldsall.signs import fits_shape, lying_program, program_shape, told_cut
from foldsall.splits import is_enough, splits_paper, torn_lots
from foldsall.tables import need_book
from tests.helpers import (AND, ANYTHING, LEAST, MOST, NOT, OR, TURN, XOR, Fails, Writer, all_operations, answer, has_lists, in_lists,
                           no_rows_of, no_sequences, no_values, rows_of)
from tests.test_cuts import SHAPE, WORDS, lots_of, many_of, random_shape
from tests.test_missed import FORKED, LOOPED


def changes(size, operation, place):
    """Whether answers rise somewhere, and fall somewhere, as a place rises, all others held."""
    rises = falls = False
    for row in rows_of(size, operation[0]):
        for value in range(row[place], size):
            low, high = answer(size, operation, row), answer(size, operation, row[:place] + (value,) + row[place + 1:])
            rises, falls = rises or low < high, falls or high < low
    return rises, falls


def does_fit(size, operation, place, word):
    rises, falls = changes(size, operation, place)
    return word == "any" or not (rises and word in ("down", "none")) and not (falls and word in ("up", "none"))


def fits(shape, book, program):
    """By the words of the document."""
    if len(program[0]) != shape[0] or len(program[1]) != len(shape[1]):
        return False
    for places, row in zip(shape[1], program[1]):
        if not places:
            if row[0] != "told":
                return False
        elif row[0] != "of" or row[2] != tuple(read for read, _ in places):
            return False
        elif not all(does_fit(book[0], book[1][row[1]], at, word) for at, (_, word) in enumerate(places)):
            return False
    return True


def straight_programs(many):
    books = ((2, (AND, NOT, XOR)), (3, (LEAST, TURN)), (2, (OR, (2, (0, 0, 1, 1)))), (3, ((2, (2, 1, 0, 2, 1, 1, 2, 2, 2)), MOST)), (2, ()),
             (2, ((3, (0, 0, 0, 1, 0, 1, 1, 1)), (1, (1, 1)))))
    for seed in range(many):
        book = books[seed % len(books)]
        yield seed, book, Writer(book, seed, True).program(1 + seed % 3, 5)


class ShapesTest(Fails, unittest.TestCase):
    def test_shapes(self):
        for _, book, program in straight_programs(240):
            shape = program_shape(book, program)
            self.assertFalse(has_lists(shape))
            self.assertEqual((shape[0], len(shape[1])), (len(program[0]), len(program[1])))
            for places, row in zip(shape[1], program[1]):
                self.assertEqual(tuple(read for read, _ in places), row[2] if row[0] == "of" else ())
                for at, (_, word) in enumerate(places):
                    told = {(False, False): "none", (True, False): "up", (False, True): "down", (True, True): "any"}
                    self.assertEqual(word, told[changes(book[0], book[1][row[1]], at)])
            self.assertIs(fits_shape(shape, book, program), True)

    def test_all_small_operations(self):
        for size, places in ((2, 1), (2, 2), (3, 1)):
            for operation in all_operations(size, places):
                program = (((0, 1),) * 2, (("of", 0, (1, 0)[:places]),), ())
                for words in itertools.product(WORDS, repeat=places):
                    shape = (2, (tuple(zip((1, 0), words)),))
                    self.assertIs(fits_shape(shape, (size, (operation,)), program), fits(shape, (size, (operation,)), program))

    def test_what_fits(self):
        several = 0
        for seed, book, program in straight_programs(240):
            dice = random.Random(seed)
            inputs, rows = program_shape(book, program)
            for _ in range(6):
                words = tuple(tuple((read, dice.choice(WORDS + ("any",) * 4)) for read, _ in places) for places in rows)
                shape = (inputs, words)
                told = fits_shape(shape, book, program)
                self.assertIs(told, fits(shape, book, program))
                several += told
            for shape in ((inputs + 1, ()), (inputs + 1, rows), (inputs, rows[:-1]), (inputs, rows + ((),)), (inputs, tuple(places[::-1] for places in rows)),
                          (inputs, tuple(places[:-1] for places in rows)), (inputs, ((),) * len(rows)),
                          (inputs, tuple(places[:2] + ((0, "any"),) for places in rows))):
                self.assertIs(fits_shape(shape, book, program), fits(shape, book, program))
        self.assertGreater(several, 200)
        # A row of any number of inputs, and one of no places that is told.
        self.assertIs(fits_shape((1, ((), ((0, "any"),))), (2, (NOT,)), (((0, 1),), (("told", 1), ("of", 0, (0,))), ())), True)
        self.assertIs(fits_shape((1, (((0, "any"),), ())), (2, (NOT,)), (((0, 1),), (("told", 1), ("of", 0, (0,))), ())), False)

    def test_told_cuts(self):
        """What the shape's cut tells is enough: no fewer splits than the program needs."""
        for seed, book, program in straight_programs(150):
            ends = (len(program[0]) + len(program[1]) - 1, 0, len(program[0]))
            program = program[:2] + (ends,)
            told = told_cut(book, program)
            self.assertFalse(has_lists(told))
            shape = program_shape(book, program)
            self.assertEqual(told, cut_paper(shape, book[0], tuple(sorted(set(ends)))))
            self.assertIs(cut_holds(shape, book[0], tuple(sorted(set(ends))), told), True)
            self.assertIs(is_enough(book, program, told[0]), True)
            self.assertLessEqual(len(splits_paper(book, program)[0]), len(told[0]))

    def test_wrong_inputs(self):
        book, program = (2, (AND, NOT)), (((0, 1),), (("of", 1, (0,)),), (1,))
        for value in no_rows_of(2) + [(-1, ()), (1, None)]:
            self.fails_at(InvalidShape, -1, fits_shape, value, None, None)
        self.fails_at(InvalidShape, 1, fits_shape, (1, ((), ((0, "no"),), None)), None, None)
        functions = (lambda book, program: fits_shape((1, (((0, "any"),),)), book, program), program_shape, told_cut)
        for function in functions:
            for value in no_rows_of(2):
                self.fails_at(InvalidBook, -1, function, value, None)
            for value in no_rows_of(3):
                self.fails_at(InvalidProgram, -1, function, book, value)
            for value in (FORKED, LOOPED):
                self.fails_at(Refused, "rows", function, book, value)
            self.fails_at(InvalidProgram, 2, function, book, FORKED[:2] + ((9,),))
        self.assertIs(fits_shape(program=program, book=in_lists(book), shape=[1, [[[0, "down"]]]]), True)
        self.assertEqual(program_shape(program=program, book=in_lists(book)), (1, (((0, "down"),),)))
        self.assertEqual(told_cut(program=program, book=in_lists(book)), ((), ()))


class LyingTest(Fails, unittest.TestCase):
    def look_at(self, shape, size, ends, lot):
        made = lying_program(shape, size, ends, lot)
        self.assertFalse(has_lists(made))
        book, program, (end, value, row) = made
        self.assertEqual((need_book(book), need_program(book, program)), (book, program))
        self.assertEqual((book[0], program[2]), (size, tuple(ends)))
        self.assertTrue(fits(shape, book, program))
        self.assertIs(fits_shape(shape, book, program), True)
        self.assertTrue(all(len(values) >= 2 for values in program[0]))
        self.assertIn(end, ends)
        self.assertNotIn(value, shown_values(book, program)[end])
        self.assertIs(is_grounded(book, program, lot, end, value, row), True)
        self.assertIs(is_enough(book, program, lot), False)

    def test_lies(self):
        lies = cuts = 0
        for seed in range(240):
            shape, dice = random_shape(seed, 6, 4), random.Random(seed)
            many = many_of(shape)
            ends = tuple(sorted(dice.sample(range(many), min(many, 1 + seed % 3))))
            for size in (2, 3, 4):
                for lot in dice.sample(lots_of(many), min(2 ** many, 4)) + [()]:
                    if is_cut(shape, size, ends, lot):
                        self.fails_at(Refused, "lot", lying_program, shape, size, ends, lot)
                        cuts += 1
                    else:
                        self.look_at(shape, size, ends, lot)
                        lies += 1
        self.assertGreater(min(lies, cuts), 300)

    def test_all_programs_that_fit(self):
        """Of small shapes, all programs gone through: a lot is enough in all of them exactly if it is a cut."""
        looked = 0
        for seed in range(400):
            shape = random_shape(3 * seed + 1, 3)
            choices = []
            for row in shape[1]:
                operations = [one for one in all_operations(2, len(row)) if row
                              and all(does_fit(2, one, at, word) for at, (_, word) in enumerate(row))]
                choices.append([(row, one) for one in operations] if row else [(row, value) for value in (0, 1)])
            if not shape[1] or math.prod(map(len, choices)) > 260:
                continue
            ends, missed = (many_of(shape) - 1,), set()
            for made in itertools.product(*choices):
                rows = tuple(("of", at, tuple(read for read, _ in row)) if row else ("told", one) for at, (row, one) in enumerate(made))
                book = (2, tuple(one if row else NOT for row, one in made))
                program = (((0, 1),) * shape[0], rows, ends)
                self.assertTrue(fits(shape, book, program))
                missed |= set(torn_lots(book, program))
            for lot in lots_of(many_of(shape)):
                self.assertIs(is_cut(shape, 2, ends, lot), all(set(lot) & set(torn) for torn in missed))
            looked += bool(missed)
        self.assertGreater(looked, 20)

    def test_least_lots(self):
        """A cut of the fewest registers, one register left out, is none."""
        many = 0
        for seed in range(0, 300, 3):
            shape = random_shape(seed, 6, 4)
            ends = (many_of(shape) - 1,)
            for size in (2, 3):
                lot = cut_paper(shape, size, ends)[0]
                for at in range(len(lot)):
                    self.look_at(shape, size, ends, lot[:at] + lot[at + 1:])
                    many += 1
        self.assertGreater(many, 60)

    def test_signs_that_are_chosen(self):
        # Of two values a place of any sign makes the ways unlike, wherever it stands.
        for words in itertools.product(("up", "down", "any"), repeat=4):
            one, two, three, four = words
            shape = (1, (((0, one),), ((0, two),), ((1, three), (2, four))))
            for size in (2, 3):
                if not is_cut(shape, size, (3,), ()):
                    self.look_at(shape, size, (3,), ())
                    self.look_at(shape, size, (3,), (1, 2, 3))
        twice = (1, (((0, "up"), (0, "down")), ((1, "down"), (0, "none")), ((2, "any"),)))
        for end in (1, 2, 3):
            for size in (2, 3, 8):
                self.look_at(twice, size, (end,), (1, 2, 3))

    def test_three_values(self):
        """With three values or more "up" and "down" spare no split; with two what all ways rise by needs none."""
        for seed in range(120):
            shape = random_shape(seed, 6, 4)
            ends = (many_of(shape) - 1,)
            plain = (shape[0], tuple(tuple((read, word if word == "none" else "any") for read, word in row) for row in shape[1]))
            rising = (shape[0], tuple(tuple((read, "up") for read, _ in row) for row in shape[1]))
            for lot in lots_of(many_of(shape))[::7]:
                self.assertEqual(is_cut(shape, 3, ends, lot), is_cut(plain, 3, ends, lot))
                self.assertEqual(is_cut(plain, 3, ends, lot), is_cut(plain, 2, ends, lot))
            self.assertEqual(cut_paper(rising, 2, ends), ((), ()))

    def test_wrong_inputs(self):
        for value in no_rows_of(2) + [(-1, ()), (1, None)]:
            self.fails_at(InvalidShape, -1, lying_program, value, None, None, None)
        for size in ANYTHING + (1, 9):
            if type(size) is not int or not 2 <= size <= 8:
                self.fails_size("size", lying_program, SHAPE, size, None, None)
        for value in no_sequences():
            self.fails_at(InvalidLot, -1, lying_program, SHAPE, 2, value, None)
            self.fails_at(InvalidLot, -1, lying_program, SHAPE, 2, (3,), value)
        for value in no_values(5):
            self.fails_at(InvalidLot, 1, lying_program, SHAPE, 2, (3, value), None)
            self.fails_at(InvalidLot, 0, lying_program, SHAPE, 2, (3,), (value,))
        wide = (1, (((0, "any"), (0, "any")),) * 9)
        self.fails_size("rows", lying_program, wide, 2, (1,), (0,))
        self.fails_size("rows", lying_program, wide, 2, (1,), ())
        self.fails_at(InvalidLot, 0, lying_program, wide, 2, (1,), (10,))
        self.look_at((1, wide[1][:8] + ((), ())), 2, (1,), ())
        self.fails_at(Refused, "lot", lying_program, SHAPE, 2, (4,), ())
        self.fails_at(Refused, "lot", lying_program, SHAPE, 2, (), ())
        self.fails_at(Refused, "lot", lying_program, (0, ()), 2, (), ())
        self.assertEqual(self.same_in_lists(lying_program, SHAPE, 2, (3,), ()), lying_program(SHAPE, 2, (3,), ()))
        self.assertIsInstance(InvalidSize("rows").word, str)


if __name__ == "__main__":
    unittest.main()
