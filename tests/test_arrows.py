"""[17]: arrows, least arrows, sure pairs."""

import itertools
import unittest

from foldsall.arrows import are_arrows, least_arrows, sure_pairs
from foldsall.errors import InvalidBook, InvalidIndex
from tests.helpers import (AND, ANYTHING, KEEP, LEAST, MOST, NOT, OR, SAME, TURN, XOR, Fails, all_operations, answer,
                           in_lists, no_rows_of, no_values)


def held_operations(book):
    """All held operations that are not dull, as functions of rows of values at the places left."""
    size, operations = book
    for operation in operations:
        for held in itertools.product([None] + list(range(size)), repeat=operation[0]):
            left = [place for place, value in enumerate(held) if value is None]
            table = {}
            for row in itertools.product(range(size), repeat=len(left)):
                whole = list(held)
                for place, value in zip(left, row):
                    whole[place] = value
                table[row] = answer(size, operation, whole)
            if left and len(set(table.values())) > 1:
                yield len(left), table


def brute_least(book, one, other):
    pairs, tables = {(one, other)}, list(held_operations(book))
    while True:
        led = {(table[tuple(pair[0] for pair in row)], table[tuple(pair[1] for pair in row)])
               for many, table in tables for row in itertools.product(pairs, repeat=many)}
        if led <= pairs:
            return tuple(sorted(pairs))
        pairs |= led


def brute_are(book, pairs):
    return all((table[tuple(pair[0] for pair in row)], table[tuple(pair[1] for pair in row)]) in pairs
               for many, table in held_operations(book) for row in itertools.product(pairs, repeat=many))


def small_books():
    twos = all_operations(2, 1) + all_operations(2, 2)
    for operation in all_operations(2, 2) + all_operations(3, 1) + all_operations(2, 3)[::7]:
        yield (2 if len(operation[1]) != 3 else 3, (operation,))
    for couple in itertools.combinations(twos, 2):
        yield (2, couple)
    for one, other in itertools.product(all_operations(3, 1)[::2], [LEAST, MOST, (2, (0, 1, 2, 1, 2, 0, 2, 0, 1))]):
        yield (3, (one, other))


class ArrowsTest(Fails, unittest.TestCase):
    def test_least_arrows_and_sure_pairs(self):
        for book in small_books():
            size = book[0]
            sure = []
            for one, other in itertools.product(range(size), repeat=2):
                pairs = brute_least(book, one, other)
                self.assertEqual(least_arrows(book, one, other), pairs)
                unlike = all(first != second for first, second in pairs)
                self.assertEqual(are_arrows(book, pairs), unlike)
                if unlike:
                    sure.append((one, other))
            self.assertEqual(sure_pairs(book), tuple(sure))

    def test_are_arrows_in_full(self):
        for book in list(small_books())[::3]:
            couples = list(itertools.permutations(range(book[0]), 2))
            for many in range(1, len(couples) + 1):
                for pairs in itertools.combinations(couples, many):
                    self.assertIs(are_arrows(book, pairs), brute_are(book, pairs))

    def test_edges(self):
        self.assertEqual(sure_pairs((2, ())), ((0, 1), (1, 0)))
        self.assertEqual(least_arrows((3, ()), 2, 2), ((2, 2),))
        self.assertEqual(sure_pairs((2, ((2, (1, 1, 1, 1)),))), ((0, 1), (1, 0)))
        self.assertEqual(least_arrows((3, (TURN,)), 0, 1), ((0, 1), (1, 2), (2, 0)))
        self.assertEqual(sure_pairs((2, (AND,) * 8)), ((0, 1), (1, 0)))
        self.assertEqual(len(sure_pairs((8, ((1, (1, 2, 3, 4, 5, 6, 7, 0)),)))), 56)
        self.assertEqual(sure_pairs((3, (LEAST, MOST))), ())
        self.assertEqual(sure_pairs((2, (XOR,))), ())
        self.assertEqual(sure_pairs((2, (SAME, NOT))), ())
        self.assertEqual(sure_pairs((2, (OR, KEEP, (3, (0, 0, 0, 1, 0, 1, 1, 1))))), ((0, 1), (1, 0)))

    def test_papers_of_any_value(self):
        book = (2, (AND,))
        self.assertIs(are_arrows(book, ((0, 1),)), True)
        self.assertIs(are_arrows(book, ((0, 1), (1, 0))), False)
        self.assertIs(are_arrows((2, (NOT,)), ((0, 1), (1, 0))), True)
        for value in ANYTHING + ([(0, 1)], ([0, 1],), ((0, 1), (0, 1)), ((1, 0), (0, 1)), ((0, 0),), ((0, 2),),
                                 ((0, 1, 0),), ((0, 1), None), ((False, True),), ((0, True),), (("0", 1),), (0, 1),
                                 "01", ((0, (1,)),), ((0, 1), (1, 0), (1, 1)), ((0, -1),)):
            self.assertIs(are_arrows(book, value), False)
            self.assertIs(are_arrows((2, (NOT,)), value), False)

    def test_wrong_inputs(self):
        book = (3, (LEAST,))
        for value in no_rows_of(2):
            self.fails_at(InvalidBook, -1, least_arrows, value, None, None)
            self.fails_at(InvalidBook, -1, are_arrows, value, None)
            self.fails_at(InvalidBook, -1, sure_pairs, value)
        self.fails_at(InvalidBook, 1, sure_pairs, (3, (LEAST, AND)))
        for value in no_values(3):
            self.fails_at(InvalidIndex, 0, least_arrows, book, value, value)
            self.fails_at(InvalidIndex, 1, least_arrows, book, 0, value)

    def test_lists_for_tuples(self):
        self.same_in_lists(least_arrows, (3, (LEAST, TURN)), 0, 1)
        self.same_in_lists(sure_pairs, (3, (LEAST,)))
        self.assertIs(are_arrows(in_lists((3, (LEAST,))), ((1, 2),)), are_arrows((3, (LEAST,)), ((1, 2),)))


if __name__ == "__main__":
    unittest.main()
