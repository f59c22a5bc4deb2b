"""[63], [64]: which lines hang on an input by looking, rests, blind programs, and needless lines."""

import functools
import itertools
import random
import unittest

from foldsall.arrows import are_arrows
from foldsall.court import court_paper
from foldsall.errors import InvalidBook, InvalidCut, InvalidIndex, InvalidRest, InvalidSize
from foldsall.passes import cut_program, need_cut, plain_form, told_lines
from foldsall.striking import hang_runs, line_runs, needless_lines, reached_lines, rest_holds, rest_paper
from tests.helpers import (AND, ANYTHING, KEEP, LEAST, MOST, NOT, OR, SAME, TURN, XOR, Fails, Writer, all_operations, answer,
                           changed, has_lists, in_lists, no_rows_of, no_values)
from tests.test_code import random_cut

BOOK = (2, (AND, NOT))
WHOLE = ((0, 1), (0, 1))
BLIND = (WHOLE, ((0, (("in", 0), ("in", 1))), (1, (("in", 1),)), (0, (("line", 0), ("line", 1)))), (("line", 2),))
REST = ("rest", 1, (1,), ((0, 1),))


def held_operations(book):
    """Each operation held, and not settled: how many places are left, those that are live, and its answers by rows."""
    size = book[0]
    for places, answers in book[1]:
        for held in itertools.product([None] + list(range(size)), repeat=places):
            left = [place for place in range(places) if held[place] is None]
            table = {}
            for row in itertools.product(range(size), repeat=len(left)):
                full = list(held)
                for place, value in zip(left, row):
                    full[place] = value
                table[row] = answer(size, (places, answers), full)
            if len(set(table.values())) > 1:
                live = [at for at in range(len(left)) if any(
                    table[row] != table[row[:at] + (value,) + row[at + 1:]] for row in table for value in range(size))]
                yield len(left), live, table


@functools.lru_cache(maxsize=None)
def helds(book):
    return tuple(held_operations(book))


def keeps(book, stills, arrows):
    """By the words of the document: whether values and arrows are kept."""
    for many, live, table in helds(book):
        for row in itertools.product(sorted(set(stills)), repeat=many):
            if table[row] not in stills:
                return False
        for row in itertools.product([(value, value) for value in sorted(set(stills))] + sorted(set(arrows)), repeat=many):
            if any(row[at][0] != row[at][1] for at in live):
                if (table[tuple(one for one, _ in row)], table[tuple(two for _, two in row)]) not in arrows:
                    return False
    return True


def pairs_of(size):
    return [(one, other) for one in range(size) for other in range(size) if one != other]


def has_rest(book):
    """Going through all values and arrows."""
    for length in range(1, book[0] + 1):
        for stills in itertools.combinations(range(book[0]), length):
            for many in range(1, len(pairs_of(book[0])) + 1):
                for arrows in itertools.combinations(pairs_of(book[0]), many):
                    if keeps(book, stills, arrows):
                        return True
    return False


def run_lines(book, cut, values, instead=None):
    """The values of all lines in a run, and the ends; some line has another value instead."""
    lines = []

    def read(reading):
        return {"in": values, "line": lines, "value": range(book[0])}[reading[0]][reading[1]]

    for number, readings in cut[1]:
        made = answer(book[0], book[1][number], [read(reading) for reading in readings])
        lines.append(instead[1] if instead and instead[0] == len(lines) else made)
    return lines, tuple(read(end) for end in cut[2])


def runs_of(cut):
    return list(itertools.product(*cut[0]))


def looked_at(book, cut, number):
    """Lines that hang on an input by looking, by the words of the document."""
    if len(cut[0][number]) == 1:
        return ()
    told, found = told_lines(book, cut), [("in", number)]
    for at, (operation, readings) in enumerate(cut[1]):
        held = []
        for word, one in readings:
            single = word == "in" and len(cut[0][one]) == 1
            held.append(cut[0][one][0] if single else None if word == "in" else told[one] if word == "line" else one)
        free = [range(book[0]) if value is None else [value] for value in held]
        for place, reading in enumerate(readings):
            if reading in found and held[place] is None:
                rows = list(itertools.product(*free))
                if any(answer(book[0], book[1][operation], row)
                       != answer(book[0], book[1][operation], row[:place] + (value,) + row[place + 1:])
                       for row in rows for value in range(book[0])):
                    found.append(("line", at))
                    break
    return tuple(one for word, one in found[1:])


def is_cut(book, value):
    try:
        return need_cut(book, value) == value
    except Exception:
        return False


def is_right(book, value):
    """By the words of the document, of any value."""
    if not isinstance(value, tuple) or has_lists(value):
        return False
    if len(value) == 2 and value[0] == "blind":
        cut = value[1]
        if not is_cut(book, cut) or cut[0] != (tuple(range(book[0])),) * 2 or len(cut[2]) != 1 or cut[2][0][0] != "line":
            return False
        if cut[2][0][1] not in looked_at(book, cut, 0):
            return False
        return all(run_lines(book, cut, run)[1] == run_lines(book, cut, (0, run[1]))[1] for run in runs_of(cut))
    if len(value) != 4 or value[0] != "rest":
        return False

    def is_value(one):
        return type(one) is int and 0 <= one < book[0]

    _, rest, stills, arrows = value
    if not is_value(rest) or not isinstance(stills, tuple) or not all(map(is_value, stills)) or rest not in stills:
        return False
    if not isinstance(arrows, tuple) or not arrows or not all(
            isinstance(pair, tuple) and len(pair) == 2 and is_value(pair[0]) and is_value(pair[1]) and pair[0] != pair[1]
            for pair in arrows):
        return False
    return keeps(book, stills, arrows)


def small_books():
    yield from ((2, ()), (3, ()), (2, (AND, AND)), (3, ((1, (2, 2, 2)), (2, (0,) * 9))), (3, (TURN, TURN, LEAST)))
    small = all_operations(2, 1) + all_operations(2, 2)
    for operation in small:
        yield (2, (operation,))
    for pair in itertools.combinations(small, 2):
        yield (2, pair)
    dice = random.Random(4)
    for at in range(150):
        places = dice.choice((1, 1, 2))
        yield (3, tuple((places, tuple(dice.randrange(3) for _ in range(3 ** places))) for _ in range(dice.choice((1, 1, 2)))))
    yield from ((3, (LEAST,)), (3, (LEAST, MOST)), (3, (LEAST, TURN)), (3, (TURN,)), (3, ((2, (0, 1, 2, 1, 2, 0, 2, 0, 1)),)))


class LookingTest(Fails, unittest.TestCase):
    def test_reached(self):
        self.assertEqual(reached_lines(BOOK, BLIND, 0), (0, 2))
        self.assertEqual(reached_lines(BOOK, BLIND, 1), (0, 1, 2))
        self.assertEqual(reached_lines(BOOK, (((0, 1), (1,)),) + BLIND[1:], 0), (0,))
        self.assertEqual(reached_lines(BOOK, (((0,), (0, 1)),) + BLIND[1:], 0), ())
        for book in (BOOK, (3, (LEAST, TURN)), (2, (XOR, OR)), (2, ((2, (0, 0, 1, 1)), NOT)), (2, ((3, (0, 0, 1, 1, 0, 1, 0, 1)),))):
            for seed in range(120):
                cut = random_cut(book, seed, 6)
                lists = tuple(random.Random(seed + at).choice(((0,), (0, 1), (1,), (0, 1))) for at in range(len(cut[0])))
                for one in (cut, (lists,) + cut[1:]):
                    for number in range(len(one[0])):
                        told = reached_lines(book, one, number)
                        self.assertEqual(told, looked_at(book, one, number))

    def test_wrong_inputs(self):
        for function in (lambda book, cut: reached_lines(book, cut, None), needless_lines):
            for value in no_rows_of(2):
                self.fails_at(InvalidBook, -1, function, value, None)
            for value in no_rows_of(3) + [[(), (), ()]]:
                self.fails_at(InvalidCut, -1, function, BOOK, value)
            for at in range(3):
                self.fails_at(InvalidCut, at, function, BOOK, BLIND[:at] + (5,) + BLIND[at + 1:])
        for value in no_values(2):
            self.fails_at(InvalidIndex, -1, reached_lines, BOOK, BLIND, value)
        self.assertEqual(reached_lines(number=0, cut=BLIND, book=in_lists(BOOK)), (0, 2))
        self.assertEqual(needless_lines(cut=BLIND, book=in_lists(BOOK)), needless_lines(BOOK, BLIND))


class RestsTest(Fails, unittest.TestCase):
    def test_papers(self):
        kinds = {}
        for book in small_books():
            paper = rest_paper(book)
            kinds[book[0], paper[0]] = kinds.get((book[0], paper[0]), 0) + 1
            self.assertFalse(has_lists(paper))
            self.assertTrue(is_right(book, paper), (book, paper))
            self.assertIs(rest_holds(book, paper), True)
            self.assertEqual(paper[0] == "rest", has_rest(book))
            if paper[0] == "rest":
                self.assertEqual((list(paper[2]), list(paper[3])), (sorted(set(paper[2])), sorted(set(paper[3]))))
                self.assertTrue(are_arrows(book, paper[3]))
            else:
                self.assertLess(len(paper[1][1]), book[0] ** 4)
        self.assertGreater(min(kinds.values()), 20)
        # "and" with "or" has arrows and no rest.
        self.assertEqual((court_paper((2, (AND, OR)))[0], rest_paper((2, (AND, OR)))[0]), ("arrows", "blind"))

    def test_books_of_four_values(self):
        dice = random.Random(8)
        blind = 0
        for _ in range(60):
            book = (4, tuple((places, tuple(dice.randrange(4) for _ in range(4 ** places)))
                             for places in [dice.choice((1, 1, 2)) for _ in range(dice.choice((1, 2)))]))
            paper = rest_paper(book)
            self.assertTrue(is_right(book, paper))
            self.assertIs(rest_holds(book, paper), True)
            if paper[0] == "blind":
                blind += 1
                self.assertLess(len(paper[1][1]), 256)
        self.assertGreater(blind, 10)

    def test_all_rests(self):
        """Any values and arrows, in any order, alike ones among them: by the words of the document."""
        for book in ((2, (AND,)), (2, (NOT,)), (2, (XOR,)), (2, (AND, OR)), (2, ()), (2, ((2, (0, 0, 1, 1)),)), (3, (TURN,)),
                     (3, (LEAST,)), (3, ((2, (0, 1, 2, 1, 2, 0, 2, 0, 1)),)), (3, ((1, (0, 0, 1)),))):
            dice, held = random.Random(1), 0
            for rest in range(book[0]):
                for length in range(book[0] + 1):
                    for stills in itertools.product(range(book[0]), repeat=length):
                        lots = [()] + [(pair,) for pair in pairs_of(book[0])]
                        for _ in range(8):
                            lots.append(tuple(dice.choice(pairs_of(book[0])) for _ in range(dice.randrange(1, 7))))
                        lots.append(tuple(pairs_of(book[0])))
                        for arrows in lots:
                            value = ("rest", rest, stills, arrows)
                            right = is_right(book, value)
                            held += right
                            self.assertIs(rest_holds(book, value), right, (book, value))
            self.assertEqual(held > 0, has_rest(book))

    def test_any_blind_program(self):
        self.assertIs(rest_holds(BOOK, ("blind", BLIND)), True)
        for cut in ((WHOLE, BLIND[1], (("line", 0),)), (WHOLE, BLIND[1], (("line", 1),)), (WHOLE, BLIND[1], (("in", 0),)),
                    (WHOLE, BLIND[1], (("in", 1),)), (WHOLE, BLIND[1], (("value", 1),)), (WHOLE, BLIND[1], ()),
                    (WHOLE, BLIND[1], (("line", 2),) * 2), (((0, 1), (1,)),) + BLIND[1:], (((0, 1),) * 3,) + BLIND[1:],
                    (((0, 1),), BLIND[1][:1], (("line", 0),)),
                    *[(WHOLE, (BLIND[1][0], (1, (("line", 0),))), ((word, number),)) for word in ("in", "value", "line") for number in (0, 1)]):
            self.assertIs(rest_holds(BOOK, ("blind", cut)), is_right(BOOK, ("blind", cut)))
        longer = (WHOLE, BLIND[1] + ((0, (("line", 2), ("in", 1))), (1, (("line", 3),))), (("line", 4),))
        self.assertIs(rest_holds(BOOK, ("blind", longer)), True)
        for seed in range(60):
            cut = (WHOLE,) + random_cut(BOOK, seed, 5)[1:]
            for at in range(5):
                told = ("blind", (WHOLE, cut[1], (("line", at),)))
                self.assertIs(rest_holds(BOOK, told), is_right(BOOK, told))

    def test_changed_papers(self):
        for book in (BOOK, (2, (AND,)), (3, (TURN,)), (2, (AND, OR)), (3, (LEAST,)), (3, (LEAST, MOST)), (2, (XOR,))):
            paper = rest_paper(book)
            for value in itertools.chain(changed(paper), ANYTHING, (paper[:1], ("rest",) + paper, ("blind", paper))):
                told = rest_holds(book, value)
                self.assertIs(type(told), bool)
                self.assertEqual(told, is_right(book, value), value)

    def test_wrong_books(self):
        for function in (rest_paper, lambda book: rest_holds(book, None), lambda book: hang_runs(book, None, None, None),
                         lambda book: line_runs(book, None, None)):
            for value in no_rows_of(2):
                self.fails_at(InvalidBook, -1, function, value)
            self.fails_at(InvalidBook, 1, function, (2, (AND, (1, (0, 2)))))
        told = self.same_in_lists(rest_paper, BOOK)
        self.assertIs(rest_holds(value=told, book=in_lists(BOOK)), True)


class RunsTest(Fails, unittest.TestCase):
    def test_hang_runs(self):
        book, paper = (2, (NOT,)), ("rest", 1, (1, 0, 1), ((1, 0), (0, 1), (1, 0)))
        self.assertIs(rest_holds(book, paper), True)
        self.assertEqual(hang_runs(book, paper, 3, 1), ((1, 1, 1), (1, 0, 1)))
        self.assertEqual(hang_runs(book, paper, 1, 0), ((1,), (0,)))
        self.assertEqual(hang_runs((2, (AND,)), REST, 4, 3), ((1, 1, 1, 0), (1, 1, 1, 1)))

    def test_lines_that_looking_reaches_differ_there(self):
        many = 0
        for book in small_books():
            paper = rest_paper(book)
            if paper[0] == "blind" or not book[1]:
                continue
            for seed in range(6):
                program = Writer(book, seed, True).program(2, 6)
                cut = ((tuple(range(book[0])),) * 2,) + cut_program(book, program)[1:]
                for number in range(2):
                    runs = [run_lines(book, cut, run)[0] for run in hang_runs(book, paper, 2, number)]
                    differ = tuple(at for at, pair in enumerate(zip(*runs)) if pair[0] != pair[1])
                    self.assertEqual(differ, reached_lines(book, cut, number))
                    many += len(differ)
                plain = plain_form(book, cut)
                told = line_runs(book, paper, cut)
                self.assertEqual(len(told), len(plain[1]))
                for at, (one, other, ends, others) in enumerate(told):
                    self.assertEqual((one, other), paper[3][0])
                    self.assertEqual(ends, run_lines(book, plain, (paper[1],) * 2, (at, one))[1])
                    self.assertEqual(others, run_lines(book, plain, (paper[1],) * 2, (at, other))[1])
                    self.assertNotEqual(ends, others)
                self.assertEqual(needless_lines(book, plain), ())
                self.assertFalse(has_lists(told))
        self.assertGreater(many, 100)

    def test_needless(self):
        for book in (BOOK, (3, (LEAST, TURN)), (2, (XOR, OR)), (2, ())):
            for seed in range(80 if book[1] else 1):
                cut = random_cut(book, seed, 6) if book[1] else (((0, 1),), (), (("in", 0),))
                lists = tuple(random.Random(seed + at).choice(((0,), (0, 1), (1,), (0, 1))) for at in range(len(cut[0])))
                for one in (cut, (lists,) + cut[1:]):
                    told = []
                    for at in range(len(one[1])):
                        if all(run_lines(book, one, run, (at, value))[1] == run_lines(book, one, run)[1]
                               for run in runs_of(one) for value in range(book[0])):
                            told.append(at)
                    self.assertEqual(needless_lines(book, one), tuple(told))

    def test_without_a_rest(self):
        """An open line of a further input, read for the blind program's input 0, is needless and stays."""
        for book in (BOOK, (2, (AND, OR)), (2, (SAME, KEEP, OR))):
            lists, lines, ends = rest_paper(book)[1]
            number = next(at for at, one in enumerate(book[1]) if len(set(one[1])) > 1 and one[0] == 2)
            first = (number, (("in", 2), ("in", 3)))
            moved = tuple((number, tuple(("line", 0) if reading == ("in", 0) else ("line", reading[1] + 1)
                                         if reading[0] == "line" else reading for reading in readings))
                          for number, readings in lines)
            cut = (lists + lists, (first,) + moved, tuple(("line", end[1] + 1) for end in ends))
            plain = plain_form(book, cut)
            self.assertIn(plain[1].index(first), needless_lines(book, plain))

    def test_what_was_told_may_be_passed_on(self):
        dice = random.Random(3)
        for _ in range(12):
            book = (4, ((2, tuple(dice.randrange(4) for _ in range(16))), (1, tuple(dice.randrange(4) for _ in range(4)))))
            paper = rest_paper(book)
            if paper[0] == "blind":
                self.assertEqual(reached_lines(book, paper[1], 0), looked_at(book, paper[1], 0))
                self.assertNotIn(len(paper[1][1]) - 1, needless_lines(book, paper[1]))

    def test_wrong_inputs(self):
        book = (2, (AND,))
        for value in ANYTHING + (("blind", BLIND), list(REST), REST[:3], ("rest", 0, (0,), ((0, 1),)), ("rest", 1, (1,), ()),
                                 ("rest", 1, [1], ((0, 1),)), ("rest", 1, (), ((0, 1),)), ("rest", 1, (1,), ((0, 0),))):
            self.fails_at(InvalidRest, -1, hang_runs, book, value, None, None)
            self.fails_at(InvalidRest, -1, line_runs, book, value, None)
        for value in ANYTHING:
            if type(value) is not int or value < 0:
                self.fails_size("many", hang_runs, book, REST, value, None)
        self.fails_at(InvalidRest, -1, hang_runs, BOOK, rest_paper(BOOK), 2, 0)
        for value in no_values(3):
            self.fails_at(InvalidIndex, -1, hang_runs, book, REST, 3, value)
        self.fails_at(InvalidIndex, -1, hang_runs, book, REST, 0, 0)
        for value in no_rows_of(3) + [[(), (), ()]]:
            self.fails_at(InvalidCut, -1, line_runs, book, REST, value)
        self.fails_at(InvalidCut, 1, line_runs, book, REST, BLIND)
        self.assertEqual(hang_runs(number=0, many=2, paper=REST, book=in_lists(book)), ((0, 1), (1, 1)))
        cut = (WHOLE, ((0, (("in", 0), ("in", 1))),), (("line", 0),))
        self.assertEqual(line_runs(cut=cut, paper=REST, book=in_lists(book)), ((0, 1, (0,), (1,)),))


if __name__ == "__main__":
    unittest.main()
