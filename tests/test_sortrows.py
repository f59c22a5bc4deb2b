"""[60]: kept rows over runs of several sorts."""

import itertools
import random
import unittest

from foldsall.errors import InvalidSorted
from foldsall.sortrows import fewest_joint, sorted_holds, sorted_paper
from foldsall.sorts import program_sorts, sort_parts, sorted_folds, sorted_values
from tests.helpers import ANYTHING, Fails, changed, has_lists
from tests.test_sorts import MIXED, ONE, random_book, table_of

ALIKE = ((2,), (((0, 0), 0, (0, 1, 1, 0)),))
BOTH = ((2,), (((0, 0), 0, (0, 0, 0, 1)),))


def held_operations(book):
    """The held operations that are not dull: the sorts of the places left, of the answer, a table."""
    sizes = book[0]
    for number, (sorts, made, _) in enumerate(book[1]):
        table = table_of(book, number)
        for held in itertools.product(*[[None] + list(range(sizes[sort])) for sort in sorts]):
            left = [place for place, value in enumerate(held) if value is None]
            part = {}
            for row in itertools.product(*[range(sizes[sorts[place]]) for place in left]):
                whole = list(held)
                for place, value in zip(left, row):
                    whole[place] = value
                part[row] = table[tuple(whole)]
            if left and len(set(part.values())) > 1:
                yield [sorts[place] for place in left], made, part


def closed(book, lots, till_alike=False):
    """The lots of rows, for each sort, with all that held operations lead them to; perhaps till one is alike."""
    known = [set() for _ in lots]
    new = [set(lot) for lot in lots]
    tables = list(held_operations(book))
    while any(new):
        if till_alike and any(len(set(row)) == 1 for lot in new for row in lot):
            return [old | lot for old, lot in zip(known, new)]
        every = [old | lot for old, lot in zip(known, new)]
        led = [set() for _ in lots]
        for sorts, made, table in tables:
            for at in range(len(sorts)):
                choices = [known[sort] if place < at else new[sort] if place == at else every[sort]
                           for place, sort in enumerate(sorts)]
                for rows in itertools.product(*choices):
                    led[made].add(tuple([table[values] for values in zip(*rows)]))
        known, new = every, [lot - old for lot, old in zip(led, every)]
    return known


def starts(book, runs):
    return [tuple(run[sort] for run in runs) for sort in range(len(book[0]))]


def all_runs(book):
    return list(itertools.product(*[range(size) for size in book[0]]))


def brute_fewest(book):
    runs = all_runs(book)
    rows = [row for lot in closed(book, [{row} for row in starts(book, runs)], True) for row in lot]
    if any(len(set(row)) == 1 for row in rows):
        return None
    for many in range(1, len(runs) + 1):
        for lot in itertools.combinations(range(len(runs)), many):
            if all(len({row[at] for at in lot}) > 1 for row in rows):
                return tuple(runs[at] for at in lot)
    return None


def is_missed(book, program):
    program_sorts(book, program)
    if sorted_folds(book, program)[-1] is not None:
        return False
    lists = [range(book[0][sort]) for sort in program[0]]
    return len({sorted_values(book, program, row)[-1] for row in itertools.product(*lists)}) == 1


def is_paper(book, paper):
    """By the words of the document."""
    sizes = book[0]
    if has_lists(paper):
        return False
    if paper[0] == "missed":
        return len(paper) == 2 and is_missed(book, paper[1])
    word, runs, lots = paper
    if word != "rows" or not runs or len(lots) != len(sizes):
        return False
    for run in runs:
        if len(run) != len(sizes) or not all(type(one) is int and 0 <= one < size for one, size in zip(run, sizes)):
            return False
    for size, lot, start in zip(sizes, lots, starts(book, runs)):
        if not isinstance(lot, tuple) or list(lot) != sorted(set(lot)) or start not in lot:
            return False
        for row in lot:
            if len(row) != len(runs) or len(set(row)) == 1:
                return False
            if not all(type(one) is int and 0 <= one < size for one in row):
                return False
    return closed(book, lots) == [set(lot) for lot in lots]


def small_books():
    for answers in itertools.product(range(2), repeat=4):
        yield ((2,), (((0, 0), 0, answers),))
        yield ((2, 2), (((0, 1), 1, answers),))
        yield ((2, 2), (((0, 1), 0, answers), ((1,), 1, (1, 0))))
        yield ((2, 2, 2), (((0, 1), 2, answers),))
        yield ((2, 2), (((0,), 1, answers[:2]), ((1,), 0, answers[2:])))
    for answers in itertools.product(range(3), repeat=3):
        yield ((3,), (((0,), 0, answers),))
        yield ((3, 2), (((0,), 0, answers), ((0, 1), 1, (0, 1, 1, 0, 0, 0))))
    for answers in itertools.product(range(2), repeat=3):
        yield ((2, 3), (((1,), 0, answers), ((0, 1), 1, (0, 1, 2, 0, 2, 1))))
    dice = random.Random(60)
    for _ in range(150):
        sizes, operations = random_book(dice, dice.choice([(2,), (3,), (2, 2), (2, 3), (3, 2), (2, 2, 2)]))
        if len(sizes) * sizes[-1] > 3:
            operations = tuple(operation for operation in operations if len(operation[0]) < 3)
        yield (sizes, operations)


class SortRowsTest(Fails, unittest.TestCase):
    def test_papers(self):
        words = {"rows": 0, "missed": 0}
        for book in small_books():
            paper = sorted_paper(book)
            self.assertTrue(is_paper(book, paper))
            self.assertIs(sorted_holds(book, paper), True)
            words[paper[0]] += 1
            self.assertEqual(paper[0] == "missed", brute_fewest(book) is None)
        self.assertTrue(all(many > 60 for many in words.values()))

    def test_fewest_joint(self):
        lengths = set()
        for book in small_books():
            told = fewest_joint(book)
            self.assertEqual(told, brute_fewest(book))
            if told is not None:
                lengths.add(len(told))
                # If each sort reaches each, two runs do.
                if len(sort_parts(book)) == 1:
                    self.assertEqual(len(told), 2)
        self.assertEqual(lengths, {2, 3})

    def test_told_examples(self):
        self.assertEqual(fewest_joint(ONE), ((0, 0, 0), (0, 1, 0), (1, 0, 1)))
        self.assertEqual(sorted_paper(ALIKE)[0], "missed")
        self.assertIsNone(fewest_joint(ALIKE))
        self.assertEqual(fewest_joint(BOTH), ((0,), (1,)))
        self.assertEqual(sorted_paper(((2, 3), ()))[0], "rows")
        self.assertEqual(fewest_joint(((2, 3), ())), ((0, 0), (1, 1)))
        self.assertEqual(fewest_joint(((4,), (((0,), 0, (1, 2, 3, 0)),))), ((0,), (1,)))
        # The first run need not be among them.
        self.assertEqual(fewest_joint(((3,), (((0,), 0, (1, 1, 2)), ((0,), 0, (2, 1, 2))))), ((1,), (2,)))

    def test_more_values(self):
        dice = random.Random(61)
        for sizes in ((4,), (4, 2), (2, 4), (2, 2, 2)):
            for _ in range(25):
                book = random_book(dice, sizes)
                book = (sizes, tuple(operation for operation in book[1] if len(operation[0]) < 3))
                turns = tuple(((sort,), sort, tuple(dice.sample(range(size), size))) for sort, size in enumerate(sizes))
                for other in (book, (sizes, turns + book[1][:1]), (sizes, turns)):
                    paper = sorted_paper(other)
                    self.assertTrue(is_paper(other, paper))
                    self.assertIs(sorted_holds(other, paper), True)
                    joint = fewest_joint(other)
                    self.assertEqual(joint is None, paper[0] == "missed")
                    if joint is not None:
                        lots = closed(other, [{row} for row in starts(other, joint)])
                        self.assertTrue(all(len(set(row)) > 1 for lot in lots for row in lot))

    def test_papers_of_other_forms(self):
        rows = ("rows", ((0,), (1,)), (((0, 1),),))
        self.assertIs(sorted_holds(BOTH, rows), True)
        # Runs in any order, alike ones let.
        self.assertIs(sorted_holds(BOTH, ("rows", ((1,), (0,)), (((1, 0),),))), True)
        self.assertIs(sorted_holds(BOTH, ("rows", ((1,), (0,), (1,)), (((1, 0, 1),),))), True)
        self.assertIs(sorted_holds(BOTH, ("rows", ((0,), (1,)), (((0, 1), (1, 0)),))), False)
        self.assertIs(sorted_holds(BOTH, ("rows", ((0,),), (((0,),),))), False)
        self.assertIs(sorted_holds(BOTH, ("rows", ((0,), (0,)), (((0, 0),),))), False)
        self.assertIs(sorted_holds(BOTH, ("rows", ((0,), (1,)), ((),))), False)
        self.assertIs(sorted_holds(BOTH, ("rows", ((0,), (1,)), (((1, 0),),))), False)
        self.assertIs(sorted_holds(BOTH, ("rows", ((0,), (True,)), (((0, 1),),))), False)
        # More rows than need be are let, if they are kept.
        turn = ((3,), (((0,), 0, (1, 2, 0)),))
        six = (((0, 1), (0, 2), (1, 0), (1, 2), (2, 0), (2, 1)),)
        self.assertIs(sorted_holds(turn, ("rows", ((0,), (1,)), six)), True)
        self.assertIs(sorted_holds(turn, ("rows", ((0,), (1,)), (six[0][:-1],))), False)
        missed = ("missed", ((0,), (("of", 0, (0, 0)),)))
        self.assertIs(sorted_holds(ALIKE, missed), True)
        self.assertIs(sorted_holds(BOTH, missed), False)
        self.assertIs(sorted_holds(ALIKE, ("missed", ((0, 0), (("of", 0, (0, 1)),)))), False)
        self.assertIs(sorted_holds(ALIKE, ("missed", ((0, 0), (("of", 0, (0, 1)), ("of", 0, (2, 2)))))), True)
        self.assertIs(sorted_holds(ALIKE, ("missed", ((0,), (("of", 0, (0, 0)), ("told", 0, 0))))), False)
        self.assertIs(sorted_holds(ALIKE, ("missed", ((0,), ()))), False)
        # What folds is not missed.
        self.assertIs(sorted_holds(BOTH, ("missed", ((0,), (("told", 0, 0), ("of", 0, (0, 1)))))), False)

    def test_changed_papers(self):
        for book in (BOTH, ALIKE, ONE, ((3,), (((0,), 0, (1, 2, 0)),)), ((2, 2), (((0,), 1, (0, 1)),))):
            paper = sorted_paper(book)
            for value in itertools.islice(changed(paper), 2500):
                try:
                    right = isinstance(value, tuple) and is_paper(book, value)
                except Exception:
                    right = False
                self.assertIs(sorted_holds(book, value), right, value)
            for value in ANYTHING:
                self.assertIs(sorted_holds(book, value), False)
                self.assertIs(sorted_holds(book, ("missed", value)), False)
                self.assertIs(sorted_holds(book, ("rows", value, value)), False)
                self.assertIs(sorted_holds(book, ("rows", value, paper[-1])), False)
                self.assertIs(sorted_holds(book, ("rows", (value,), (value,))), False)

    def test_wrong_books(self):
        for value in list(ANYTHING) + [((2,), []), [(2,), ()], ((5,), ())]:
            for function in (sorted_paper, fewest_joint, lambda one: sorted_holds(one, None)):
                self.fails_at(InvalidSorted, -1, function, value)
        self.fails_at(InvalidSorted, 1, sorted_paper, ((2,), (BOTH[1][0], None)))
        self.assertEqual(sorted_paper(book=MIXED), sorted_paper(MIXED))
        self.assertIs(sorted_holds(value=sorted_paper(MIXED), book=MIXED), True)
        self.assertEqual(fewest_joint(book=ONE), fewest_joint(ONE))


if __name__ == "__main__":
    unittest.main()
