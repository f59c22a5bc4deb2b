"""[13], [14]: kept sets, folding, quick looks, papers of what is kept."""

import itertools
import unittest

from foldsall.errors import InvalidBook, InvalidProgram
from foldsall.folding import folded_values, kept_holds, kept_paper, kept_sets, quick_sets
from foldsall.programs import register_sources
from tests.helpers import AND, ANYTHING, LEAST, MOST, NOT, Fails, Writer, all_runs, answer, changed, has_lists, no_rows_of
from tests.test_programs import PROGRAM, random_programs

BOOK = (2, (AND, NOT))
TOLD = (((0, 1),), (("told", 0), ("of", 0, (0, 1)), ("of", 1, (0,)), ("of", 0, (0, 3))), (4,))
LOOP = (((0, 1),), (("loop", None, (0,), (("of", 1, (1,)),), (2,)),), (1,))
WRONG_KS = [k for k in ANYTHING if k is not None and (type(k) is not int or k < 1)]


def given(book, source, kept):
    if source[0] == "list":
        return set(source[1])
    if source[0] == "told":
        return {source[1]}
    if source[0] == "either":
        return set(kept[source[1]]) | set(kept[source[2]])
    return {answer(book[0], book[1][source[1]], row) for row in itertools.product(*[kept[read] for read in source[2]])}


def opened(book, k, lot):
    return set(range(book[0])) if k is not None and len(lot) > k else set(lot)


def brute_kept(book, program, k=None):
    sources = register_sources(book, program)
    kept = [set() for _ in sources]
    while True:
        behind = [lot | opened(book, k, given(book, source, kept)) for lot, source in zip(kept, sources)]
        if behind == kept:
            return tuple(tuple(sorted(lot)) for lot in kept)
        kept = behind


def brute_looks(book, program, k=None):
    sources = register_sources(book, program)
    kept, looks, waits = [set() for _ in sources], [0] * len(sources), set(range(len(sources)))
    while waits:
        number = min(waits)
        waits.remove(number)
        looks[number] += 1
        lot = opened(book, k, given(book, sources[number], kept))
        if lot != kept[number]:
            kept[number] = lot
            for other, source in enumerate(sources):
                reads = source[1:] if source[0] == "either" else source[2] if source[0] == "of" else ()
                if number in reads:
                    waits.add(other)
    return tuple(tuple(sorted(lot)) for lot in kept), tuple(looks)


def is_paper(book, program, k, value):
    """Whether any value is ranked rows for all that is kept, by the words of the document."""
    if not isinstance(value, tuple) or has_lists(value):
        return False
    if not all(isinstance(row, tuple) and len(row) == 3 and all(type(part) is int and part >= 0 for part in row)
               for row in value):
        return False
    if [row[:2] for row in value] != [(number, one) for number, lot in enumerate(brute_kept(book, program, k))
                                      for one in lot]:
        return False
    sources = register_sources(book, program)
    for number, one, rank in value:
        kept = [[other[1] for other in value if other[0] == at and other[2] < rank] for at in range(len(sources))]
        if one not in opened(book, k, given(book, sources[number], kept)):
            return False
    return True


class KeptTest(Fails, unittest.TestCase):
    def test_kept_sets_and_looks(self):
        for book, program in random_programs(240):
            for k in (None, 1, 2, book[0], book[0] + 5):
                told = kept_sets(book, program, k)
                self.assertEqual(told, brute_kept(book, program, k))
                self.assertEqual(quick_sets(book, program, k), brute_looks(book, program, k))
                if k is not None and k >= book[0]:
                    self.assertEqual(told, kept_sets(book, program))
            folds = tuple(lot[0] if len(lot) == 1 else None for lot in brute_kept(book, program, 1))
            self.assertEqual(folded_values(book, program), folds)

    def test_shown_values_are_kept(self):
        for book, program in random_programs(120):
            kept = kept_sets(book, program)
            less = kept
            for k in range(9, 0, -1):
                # A greater k keeps no more.
                wider = kept_sets(book, program, k)
                for lot, other in zip(less, wider):
                    self.assertLessEqual(set(lot), set(other))
                less = wider
            for run in itertools.islice(all_runs(book, program, 2), 100):
                for trace, lot in zip(run.trace, kept):
                    self.assertLessEqual(set(trace), set(lot))

    def test_wider_lists_keep_no_less(self):
        for book, program in random_programs(120):
            lists = tuple(tuple(range(book[0])) for _ in program[0])
            for k in (None, 1, 2):
                wider = kept_sets(book, (lists,) + program[1:], k)
                for lot, other in zip(kept_sets(book, program, k), wider):
                    self.assertLessEqual(set(lot), set(other))

    def test_looks_are_few(self):
        for book, program in random_programs(240):
            for k in (None, 1, 2):
                kept, looks = quick_sets(book, program, k)
                for number, source in enumerate(register_sources(book, program)):
                    reads = source[1:] if source[0] == "either" else source[2] if source[0] == "of" else ()
                    self.assertLessEqual(looks[number], 1 + sum(len(kept[read]) for read in set(reads)))

    def test_told_examples(self):
        self.assertEqual((folded_values(BOOK, TOLD), kept_sets(BOOK, TOLD)[4], quick_sets(BOOK, TOLD)[1]),
                         ((None, 0, 0, None, None), (0, 1), (1, 1, 1, 1, 1)))
        program = (((0, 1, 2),), (("told", 1), ("of", 0, (0, 1)), ("of", 1, (2, 1))), (3,))
        self.assertEqual(folded_values((3, (LEAST, MOST)), program), (None, 1, None, None))
        self.assertEqual(kept_sets((3, (LEAST, MOST)), program), ((0, 1, 2), (1,), (0, 1), (1,)))
        self.assertEqual(kept_sets((3, ()), (((0, 1),), (), ()), 1), ((0, 1, 2),))
        self.assertEqual(kept_sets((3, ()), (((0, 1),), (), ()), 2), ((0, 1),))
        self.assertEqual(kept_sets((3, ()), ((), (), ())), ())
        self.assertEqual(folded_values((3, ()), (((2,),), (), ())), (2,))
        # Tests and turns are not looked at.
        program = (((0,),), (("fork", (0, 0), (("told", 0),), (("told", 1),), ((1, 2),)),
                             ("loop", 0, (0,), (("told", 1),), (5,))), (3,))
        self.assertEqual(kept_sets(BOOK, program), ((0,), (0,), (1,), (0, 1), (0, 1), (1,)))
        self.assertEqual(quick_sets(BOOK, LOOP), (((0, 1), (0, 1), (0, 1)), (1, 2, 1)))

    def test_wrong_inputs(self):
        for function in (kept_sets, folded_values, quick_sets, kept_paper, lambda book, program: kept_holds(
                book, program, None, None)):
            for value in no_rows_of(2):
                self.fails_at(InvalidBook, -1, function, value, None)
            for value in no_rows_of(3):
                self.fails_at(InvalidProgram, -1, function, BOOK, value)
            self.fails_at(InvalidProgram, 2, function, BOOK, (((0, 1),), (), (1,)))
        for function in (kept_sets, quick_sets, kept_paper, lambda book, program, k: kept_holds(book, program, k, None)):
            for k in WRONG_KS:
                self.fails_size("k", function, BOOK, TOLD, k)
            self.fails_at(InvalidProgram, -1, function, BOOK, None, 0)

    def test_names_and_lists(self):
        book = [2, [list(AND), [1, [1, 0]]]]
        for function in (kept_sets, quick_sets, kept_paper):
            self.assertFalse(has_lists(function(book, LOOP)))
            for k in (None, 1):
                self.assertEqual(function(book=book, program=LOOP, k=k), function(BOOK, LOOP, k))
            self.assertEqual(function(BOOK, LOOP), function(BOOK, LOOP, None))
        self.assertEqual(folded_values(program=TOLD, book=book), folded_values(BOOK, TOLD))
        self.assertIs(kept_holds(book=book, program=TOLD, k=1, value=kept_paper(BOOK, TOLD, 1)), True)


class PapersTest(Fails, unittest.TestCase):
    def test_papers(self):
        for book, program in random_programs(240):
            for k in (None, 1, 2):
                paper = kept_paper(book, program, k)
                self.assertTrue(is_paper(book, program, k, paper))
                self.assertIs(kept_holds(book, program, k, paper), True)
                wider = tuple((number, one, 3 * rank + 10 ** 12) for number, one, rank in paper)
                self.assertIs(kept_holds(book, program, k, wider), True)

    def test_changed_papers(self):
        for seed in range(12):
            book = ((2, (AND, NOT)), (3, (LEAST, MOST)))[seed % 2]
            program = Writer(book, seed).program(1 + seed % 2, 3)
            for k in (None, 1, 2):
                for value in itertools.islice(changed(kept_paper(book, program, k)), 400):
                    self.assertIs(kept_holds(book, program, k, value), is_paper(book, program, k, value))

    def test_ranks_in_full(self):
        for program in (LOOP, (((0, 1),), (("of", 1, (0,)), ("of", 0, (0, 1))), ())):
            rows = [(number, one) for number, lot in enumerate(kept_sets(BOOK, program)) for one in lot]
            for ranks in itertools.product(range(3), repeat=len(rows)):
                value = tuple(row + (rank,) for row, rank in zip(rows, ranks))
                for k in (None, 1):
                    self.assertIs(kept_holds(BOOK, program, k, value), is_paper(BOOK, program, k, value))

    def test_what_more_than_k_give(self):
        # A list of more values than k gives all values, by no rows; so does an operation of open ones.
        program = (((0, 1),), (("of", 0, (0, 0)),), ())
        book = (3, (LEAST,))
        self.assertIs(kept_holds(book, program, 1, ((0, 0, 0), (0, 1, 0), (0, 2, 0), (1, 0, 1), (1, 1, 1), (1, 2, 1))), True)
        self.assertIs(kept_holds(book, program, 1, ((0, 0, 0), (0, 1, 0), (0, 2, 1), (1, 0, 1), (1, 1, 1), (1, 2, 1))), True)
        self.assertIs(kept_holds(book, program, 1, ((0, 0, 0), (0, 1, 1), (0, 2, 2), (1, 0, 1), (1, 1, 1), (1, 2, 3))), False)
        self.assertIs(kept_holds(book, program, None, ((0, 0, 0), (0, 1, 0), (0, 2, 0), (1, 0, 1), (1, 1, 1), (1, 2, 1))),
                      False)
        self.assertIs(kept_holds(book, program, 2, ((0, 0, 5), (0, 1, 0), (1, 0, 6), (1, 1, 1))), True)

    def test_any_value(self):
        for value in ANYTHING:
            self.assertIs(kept_holds(BOOK, TOLD, None, value), False)
            self.assertIs(kept_holds(BOOK, PROGRAM, 1, (value,)), False)
            self.assertIs(kept_holds(BOOK, ((), (), ()), 1, value), value == () and isinstance(value, tuple))


if __name__ == "__main__":
    unittest.main()
