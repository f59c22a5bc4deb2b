"""[61]: sorts of two values turned so that all rises, and kept sets over sorts that are exact."""

import itertools
import random
import unittest

from foldsall.errors import InvalidSorted, Refused
from foldsall.sortrows import sorted_paper
from foldsall.sorts import need_sorted, program_sorts, sorted_kept, sorted_values, sorts_reached
from foldsall.turnings import sort_sets_hold, sort_sets_paper, turned_holds, turned_paper
from tests.helpers import ANYTHING, Fails, changed, has_lists
from tests.test_sorts import MIXED, ONE, random_book, random_program

FALLS = ((2, 2), (((0,), 1, (1, 0)), ((1,), 0, (1, 0))))
RING = ((2, 2), (((0,), 1, (1, 0)), ((1,), 0, (0, 1))))
XOR = ((2,), (((0, 0), 0, (0, 1, 1, 0)),))


def rises(book, turns):
    """Whether all operations rise, sorts turned so: by all pairs of rows, one below the other."""
    for sorts, made, answers in book[1]:
        table = dict(zip(itertools.product((0, 1), repeat=len(sorts)), answers))
        for one, other in itertools.product(table, repeat=2):
            below = all(turns[sort] ^ one[at] <= turns[sort] ^ other[at] for at, sort in enumerate(sorts))
            if below and turns[made] ^ table[one] > turns[made] ^ table[other]:
                return False
    return True


def lots_of_pairs(book, sort, pair):
    """The least lots of pairs, by sort, that have this one and all alike ones, and what operations make of pairs."""
    sizes, operations = book
    lots = [{(value, value) for value in range(size)} for size in sizes]
    lots[sort].add(pair)
    while True:
        before = [len(lot) for lot in lots]
        for sorts, made, answers in operations:
            table = dict(zip(itertools.product(*[range(sizes[at]) for at in sorts]), answers))
            for pairs in itertools.product(*[sorted(lots[at]) for at in sorts]):
                lots[made].add(tuple(table[tuple(one[side] for one in pairs)] for side in (0, 1)))
        if before == [len(lot) for lot in lots]:
            return lots


def are_exact(book):
    """By the least lots of pairs, as the document tells."""
    sizes, operations = book
    for sort, size in enumerate(sizes):
        for pair in itertools.combinations(range(size), 2):
            lots = lots_of_pairs(book, sort, pair)
            for sorts, _, answers in operations:
                table = dict(zip(itertools.product(*[range(sizes[at]) for at in sorts]), answers))
                for pairs in itertools.product(*[sorted(lots[at]) for at in sorts]):
                    shown = {table[tuple(one[side] for one in pairs)] for side in (0, 1)}
                    if {table[row] for row in itertools.product(*pairs)} != shown:
                        return False
    return True


def two_books(dice, many):
    """Books of sorts of two values that all reach one another."""
    while many:
        sizes = (2,) * dice.randrange(1, 4)
        book = random_book(dice, sizes)
        if all(len(reached) == len(sizes) for reached in sorts_reached(book)):
            many -= 1
            yield book


def small_books(sizes, places):
    """All books of one operation."""
    for sorts in itertools.product(range(len(sizes)), repeat=places):
        many = len(list(itertools.product(*[range(sizes[sort]) for sort in sorts])))
        for made in range(len(sizes)):
            for answers in itertools.product(range(sizes[made]), repeat=many):
                yield (sizes, ((sorts, made, answers),))


class TurnedTest(Fails, unittest.TestCase):
    def look(self, book):
        paper = turned_paper(book)
        self.assertFalse(has_lists(paper))
        self.assertIs(turned_holds(book, paper), True)
        rows = [row for row in itertools.product((0, 1), repeat=len(book[0])) if rises(book, row)]
        self.assertEqual(paper[0], "turns" if rows else "ring")
        if rows:
            self.assertIn(paper[1], rows)
            for row in itertools.product((0, 1), repeat=len(book[0])):
                self.assertIs(turned_holds(book, ("turns", row)), row in rows)
        else:
            program = paper[1]
            self.assertEqual(len(program[0]), 1)
            self.assertEqual(program_sorts(book, program)[-1], program[0][0])
            for value in (0, 1):
                self.assertEqual(sorted_values(book, program, (value,))[-1], 1 - value)
        # Nothing is missed exactly if sorts can be turned so, or each operation hangs on one place at most.
        narrow = all(self.hung(answers, len(sorts)) <= 1 for sorts, _, answers in book[1])
        self.assertEqual(sorted_paper(book)[0] == "rows", bool(rows) or narrow)
        return paper

    def hung(self, answers, places):
        rows = list(itertools.product((0, 1), repeat=places))
        table = dict(zip(rows, answers))
        return sum(any(table[row] != table[row[:at] + (1 - row[at],) + row[at + 1:]] for row in rows)
                   for at in range(places))

    def test_told_papers(self):
        self.assertEqual(turned_paper(FALLS)[0], "turns")
        self.assertEqual(turned_paper(RING), ("ring", ((0,), (("of", 0, (0,)), ("of", 1, (1,))))))
        self.assertEqual(self.look(XOR)[0], "ring")
        self.assertEqual(turned_paper(((2,), ())), ("turns", (0,)))

    def test_small_books(self):
        for places in (1, 2, 3):
            for book in small_books((2,), places):
                self.look(book)
        dice = random.Random(1)
        for book in two_books(dice, 150):
            self.look(book)

    def test_any_rings(self):
        ring = turned_paper(XOR)[1]
        self.assertEqual(len(ring[1]), 2)
        longer = ((0,), (("told", 0, 1), ("told", 0, 0), ("of", 0, (1, 2)), ("of", 0, (3, 0)), ("of", 0, (2, 4))))
        self.assertIs(turned_holds(XOR, ("ring", ((0,), (("told", 0, 1), ("of", 0, (0, 1)))))), True)
        self.assertIs(turned_holds(XOR, ("ring", longer)), True)
        for program in (((0,), ()), ((0,), (("told", 0, 1),)), ((0, 0), (("told", 0, 1), ("of", 0, (0, 2)))),
                        ((), (("told", 0, 1), ("of", 0, (0, 0)))), ((0,), (("told", 0, 0), ("of", 0, (0, 1)))),
                        ((0,), (("told", 0, 1), ("of", 0, (0, 1)), ("told", 0, 1))), ((1,), ()), ((), ())):
            self.assertIs(turned_holds(XOR, ("ring", program)), False)
        for row in ((2,), (-1,), (None,), (True,), (), (0, 0)):
            self.assertIs(turned_holds(XOR, ("turns", row)), False)
        # The end is of the other sort.
        self.assertIs(turned_holds(FALLS, ("ring", ((0,), (("of", 0, (0,)),)))), False)
        self.assertIs(turned_holds(RING, ("ring", ((1,), (("of", 1, (0,)), ("of", 0, (1,)))))), True)

    def test_changed_papers(self):
        for book in (FALLS, RING, XOR):
            paper = turned_paper(book)
            for value in list(changed(paper)) + list(ANYTHING) + ["turns", ("turns",), ("ring",), ("turns", (True,)),
                                                                  ("turns", [0, 1]), ("turns", (0, 2)), ("turns", ())]:
                told = turned_holds(book, value)
                self.assertIs(type(told), bool)
                if told:
                    self.assertFalse(has_lists(value))
                    self.assertEqual(value[0], paper[0])
                    if value[0] == "turns":
                        self.assertTrue(rises(book, value[1]))
                        self.assertTrue(all(type(turn) is int for turn in value[1]))
                    else:
                        self.assertEqual([sorted_values(book, value[1], (at,))[-1] for at in (0, 1)], [1, 0])

    def test_refused(self):
        for function in (turned_paper, lambda book: turned_holds(book, ("turns", (0,)))):
            for value in ANYTHING:
                self.fails_at(InvalidSorted, -1, function, value)
            self.fails_at(InvalidSorted, 0, function, ((2,), (((0,), 0, (0, 2)),)))
            self.fails_at(Refused, -1, function, MIXED)
            self.fails_at(Refused, -1, function, ((3,), ()))
            self.fails_at(Refused, -1, function, ((2, 4), ()))
            self.fails_at(Refused, 0, function, ((2, 2), ()))
            self.fails_at(Refused, 0, function, ONE)
            self.fails_at(Refused, 1, function, ((2, 2), (((0,), 1, (0, 1)),)))
            self.fails_at(Refused, 0, function, ((2, 2), (((1,), 0, (0, 1)), ((0,), 1, (1, 1)))))


class SortSetsTest(Fails, unittest.TestCase):
    def look(self, book):
        paper = sort_sets_paper(book)
        self.assertFalse(has_lists(paper))
        self.assertIs(sort_sets_hold(book, paper), True)
        self.assertEqual(paper[0], "exact" if are_exact(book) else "lies")
        self.assertIs(sort_sets_hold(book, ("exact",)), paper[0] == "exact")
        if paper[0] == "lies":
            self.assertTrue(self.is_lie(book, *paper[1:]))
        return paper

    def is_lie(self, book, values, program, value):
        self.assertEqual(len(program[0]), 1)
        self.assertEqual(list(values), sorted(set(values)))
        shown = {sorted_values(book, program, (one,))[-1] for one in values}
        return value in sorted_kept(book, program, [values])[-1] and value not in shown

    def test_told_papers(self):
        self.assertEqual(sort_sets_paper(ONE), ("exact",))
        self.assertEqual(sort_sets_paper(((2,), ())), ("exact",))
        self.assertEqual(self.look(XOR)[0], "lies")
        self.assertEqual(self.look(MIXED)[0], "lies")
        # What lies is made behind a pair of alike values.
        for book in (((2, 3), (((0, 1), 0, (0, 0, 1, 1, 0, 1)), ((0,), 0, (1, 0)))),
                     ((2, 3), (((0,), 1, (1, 2)), ((1,), 1, (0, 2, 1)), ((1, 1), 0, (0, 1, 0, 0, 1, 1, 1, 1, 1))))):
            self.assertEqual(self.look(book)[0], "lies")

    def test_small_books(self):
        for book in itertools.chain(small_books((2,), 1), small_books((2,), 2), small_books((3,), 1), small_books((2, 2), 2),
                                    small_books((2, 3), 1)):
            self.look(book)
        for book in list(small_books((3,), 2))[::331] + list(small_books((2,), 3))[::5]:
            self.look(book)
        dice = random.Random(2)
        for at in range(160):
            self.look(random_book(dice, ((2, 2), (2, 3), (3,), (2, 2, 2), (4, 2))[at % 5]))

    def test_exact_books_keep_what_is_shown(self):
        dice = random.Random(3)
        exact = 0
        for at in range(400):
            book = random_book(dice, ((2, 2), (2, 3), (3,), (2, 2, 2))[at % 4])
            if not book[1] or sort_sets_paper(book) != ("exact",):
                continue
            exact += 1
            program, _ = random_program(dice, book, 3, 6)
            lists = [tuple(sorted(dice.sample(range(book[0][sort]), dice.randrange(1, book[0][sort] + 1))))
                     for sort in program[0]]
            runs = [sorted_values(book, program, values) for values in itertools.product(*lists)]
            for number, kept in enumerate(sorted_kept(book, program, lists)):
                self.assertEqual(kept, tuple(sorted({run[number] for run in runs})))
        self.assertGreater(exact, 40)

    def test_any_lies(self):
        program = ((0,), (("told", 0, 1), ("of", 0, (0, 1)), ("of", 0, (0, 2))))
        self.assertEqual(need_sorted(XOR), XOR)
        self.assertIs(sort_sets_hold(XOR, ("lies", (0, 1), program, 0)), True)
        self.assertIs(sort_sets_hold(XOR, ("lies", (0, 1), ((0,), (("of", 0, (0, 0)),)), 1)), True)
        self.assertIs(sort_sets_hold(XOR, ("lies", (0, 1), ((0,), (("of", 0, (0, 0)),)), True)), False)
        self.assertIs(sort_sets_hold(XOR, ("exact", (0, 1), ((0,), (("of", 0, (0, 0)),)), 1)), False)
        for values, other, value in (((0, 1), program, 1), ((0,), program, 0), ((1, 0), program, 0), ([0, 1], program, 0),
                                     ((), program, 0), ((0, 2), program, 0), ((0, 1), program, True), ((0, 1), program, 2),
                                     ((0, 1), ((0, 0), program[1]), 0), ((0, 1), ((), (("told", 0, 1),)), 0),
                                     ((0, 1), ((0,), ()), 0), ((0, 1), ((), ()), 0), ((0, 0, 1), program, 0)):
            self.assertIs(sort_sets_hold(XOR, ("lies", values, other, value)), False)
        # More than two values may lie, too.
        book = ((3,), (((0, 0), 0, (0, 0, 0, 0, 1, 1, 0, 1, 2)), ((0,), 0, (2, 1, 0))))
        self.assertIs(sort_sets_hold(book, ("lies", (0, 1, 2), ((0,), (("of", 1, (0,)), ("of", 0, (0, 1)))), 2)), True)
        self.assertIs(sort_sets_hold(book, ("lies", (0, 1, 2), ((0,), (("of", 1, (0,)), ("of", 0, (0, 1)))), 0)), False)

    def test_changed_papers(self):
        for book in (ONE, XOR, MIXED):
            paper = sort_sets_paper(book)
            for value in list(changed(paper)) + list(ANYTHING) + ["exact", ["exact"], ("exact", 1), ("lies",)]:
                told = sort_sets_hold(book, value)
                self.assertIs(type(told), bool)
                if told:
                    self.assertFalse(has_lists(value))
                    self.assertTrue(value == paper or (len(value) == 4 and self.is_lie(book, *value[1:])))

    def test_wrong_books(self):
        for value in ANYTHING:
            self.fails_at(InvalidSorted, -1, sort_sets_paper, value)
            self.fails_at(InvalidSorted, -1, sort_sets_hold, value, None)
        self.fails_at(InvalidSorted, 0, sort_sets_hold, ((2,), (((0,), 0, [0, 1]),)), None)
        self.assertEqual(sort_sets_hold(value=("exact",), book=ONE), True)
        self.assertEqual(sort_sets_paper(book=ONE), ("exact",))
        self.assertEqual(turned_holds(value=turned_paper(book=XOR), book=XOR), True)


if __name__ == "__main__":
    unittest.main()
