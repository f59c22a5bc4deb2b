"""[5], [6]: sizes, operations, books, held and joined tables."""

import itertools
import unittest

from foldsall.errors import InvalidBook, InvalidOperation, InvalidTable, InvalidValues
from foldsall.tables import (held_table, hung_places, joined_table, least_table, need_book, need_operation,
                             settled_value, two_places)
from tests.helpers import (AND, ANYTHING, LEAST, NOT, TURN, XOR, Fails, all_operations, answer, no_rows_of,
                           rows_of)


def brute_held(size, operation, held):
    choices = [range(size) if value is None else (value,) for value in held]
    return tuple(answer(size, operation, row) for row in itertools.product(*choices))


def brute_hung(size, operation):
    rows = rows_of(size, operation[0])
    found = set()
    for one, other in itertools.combinations(rows, 2):
        unlike = [place for place in range(operation[0]) if one[place] != other[place]]
        if len(unlike) == 1 and answer(size, operation, one) != answer(size, operation, other):
            found.add(unlike[0])
    return tuple(sorted(found))


class TablesTest(Fails, unittest.TestCase):
    def test_operations(self):
        self.assertEqual(need_operation(2, [2, [0, 0, 0, 1]]), AND)
        self.assertEqual(need_operation(8, (1, tuple(range(8)))), (1, tuple(range(8))))
        self.assertEqual(need_operation(2, (3, [0] * 8)), (3, (0,) * 8))
        self.assertEqual(need_operation(8, (3, [7] * 512)), (3, (7,) * 512))
        for value in ANYTHING + ((0, (0,)), (4, (0,) * 16), (2, (0, 0, 0)), (2, (0, 0, 0, 2)), (2, (0, 0, 0, -1)),
                                 (2, (0, 0, 0, True)), (True, (0, 1)), (1, "01"), (1, (0, 1), 0), (2, 5), "ab",
                                 (10 ** 9, (0, 1)), (-1, ()), (1, (0, None)), ((1,), (0, 1))):
            self.fails_at(InvalidOperation, -1, need_operation, 2, value)

    def test_sizes(self):
        for size in ANYTHING + (9, 1, -2, (2,), "2"):
            self.fails_size("size", need_operation, size, None)
            self.fails_size("size", held_table, size, None, None)
            self.fails_size("size", settled_value, size, None, None)
            self.fails_size("size", hung_places, size, None)
            self.fails_size("size", least_table, size, None)
            self.fails_size("size", two_places, size, None)
            self.fails_size("size", joined_table, size, None, None)

    def test_books(self):
        self.assertEqual(need_book([2, [[2, [0, 0, 0, 1]], NOT, NOT]]), (2, (AND, NOT, NOT)))
        self.assertEqual(need_book((8, ())), (8, ()))
        self.assertEqual(need_book((2, (NOT,) * 8)), (2, (NOT,) * 8))
        for value in no_rows_of(2) + [("x", 1), (2, (NOT,) * 9), (9, ()), (1, ()), (True, ()), (2, None), (2, "")]:
            self.fails_at(InvalidBook, -1, need_book, value)
        self.fails_at(InvalidBook, 0, need_book, [2, [[1, [0, True]]]])
        self.fails_at(InvalidBook, 0, need_book, (2, ((1, (0, 2)),)))
        self.fails_at(InvalidBook, 1, need_book, (3, (LEAST, NOT, None)))
        self.fails_at(InvalidBook, 2, need_book, (2, (AND, NOT, LEAST)))
        # A whole that is none is told ahead of places in it.
        self.fails_at(InvalidBook, -1, need_book, (2, (None,) * 9))

    def test_held_tables_in_full(self):
        for size, places in ((2, 1), (2, 2), (2, 3), (3, 1)):
            for operation in all_operations(size, places):
                for held in itertools.product((None,) + tuple(range(size)), repeat=places):
                    answers = brute_held(size, operation, held)
                    self.assertEqual(held_table(size, operation, held), (held.count(None), answers))
                    one = answers[0] if len(set(answers)) == 1 else None
                    self.assertEqual(settled_value(size, operation, list(held)), one)

    def test_held_bit_by_bit(self):
        for operation in ((3, (0, 1, 1, 0, 1, 0, 0, 0)), (3, (0, 0, 1, 0, 0, 1, 1, 1))):
            for held in rows_of(2, 3):
                for order in itertools.permutations(range(3)):
                    now, left = operation, [0, 1, 2]
                    for place in order[:2]:
                        now = held_table(2, now, [held[at] if at == place else None for at in left])
                        left.remove(place)
                    whole = [None if at == order[2] else held[at] for at in range(3)]
                    self.assertEqual(now, held_table(2, operation, whole))

    def test_wrong_held(self):
        for held in no_rows_of(2):
            self.fails_at(InvalidValues, -1, held_table, 3, LEAST, held)
        self.fails_at(InvalidValues, -1, settled_value, 2, NOT, ())
        self.fails_at(InvalidValues, -1, settled_value, 2, NOT, (None, None))
        self.fails_at(InvalidValues, 1, held_table, 3, LEAST, (None, 3))
        self.fails_at(InvalidValues, 0, held_table, 3, LEAST, (True, 3))
        self.fails_at(InvalidValues, 0, settled_value, 3, LEAST, ["0", None])
        self.fails_at(InvalidOperation, -1, held_table, 3, AND, (None, 3))

    def test_hung_places_in_full(self):
        for size, places in ((2, 1), (2, 2), (2, 3), (3, 1)):
            for operation in all_operations(size, places):
                hung = brute_hung(size, operation)
                self.assertEqual(hung_places(size, operation), hung)
                told, answers = least_table(size, operation)
                self.assertEqual(told, hung)
                self.assertEqual(len(answers), size ** len(hung))
                for row in rows_of(size, places):
                    least = [row[place] for place in hung]
                    self.assertEqual(answer(size, (len(hung), answers), least), answer(size, operation, row))
                self.check_two(size, operation, hung)

    def check_two(self, size, operation, hung):
        told = two_places(size, operation)
        if len(hung) < 2:
            self.assertIsNone(told)
            return
        place, other, held = told
        self.assertLess(place, other)
        self.assertEqual([at for at, value in enumerate(held) if value is None], [place, other])
        self.assertEqual(len(brute_hung(size, (2, brute_held(size, operation, held)))), 2)

    def test_two_places_of_three_values(self):
        for answers in itertools.islice(itertools.product(range(3), repeat=9), 0, None, 97):
            self.check_two(3, (2, answers), brute_hung(3, (2, answers)))

    def test_joined_tables(self):
        tables = [(1, (0, 1, 2)), (1, (1, 1, 0))]
        self.assertEqual(joined_table(3, LEAST, tables), (1, (0, 1, 0)))
        self.assertEqual(joined_table(2, AND, ((0, (1,)), (0, (1,)))), (0, (1,)))
        self.assertEqual(joined_table(2, NOT, [(6, (0, 1) * 32)]), (6, (1, 0) * 32))
        self.assertEqual(joined_table(2, XOR, [(4, (0, 1) * 8), (4, (0, 0, 1, 1) * 4)]), (4, (0, 1, 1, 0) * 4))

    def test_joined_then_held(self):
        for one, other in itertools.product(all_operations(2, 2), repeat=2):
            joined = joined_table(2, AND, [one, other])
            for held in itertools.product((None, 0, 1), repeat=2):
                parts = [held_table(2, one, held), held_table(2, other, held)]
                self.assertEqual(held_table(2, joined, held), joined_table(2, AND, parts))

    def test_wrong_tables(self):
        for tables in no_rows_of(2):
            self.fails_at(InvalidTable, -1, joined_table, 2, AND, tables)
        self.fails_at(InvalidTable, -1, joined_table, 2, NOT, [NOT, NOT])
        self.fails_at(InvalidTable, 0, joined_table, 2, AND, ["x", 1])
        self.fails_at(InvalidTable, 1, joined_table, 2, AND, [NOT, (0, (1,))])
        self.fails_at(InvalidTable, 1, joined_table, 2, AND, [NOT, (1, (1, True))])
        self.fails_at(InvalidTable, 0, joined_table, 2, AND, [(7, (0,) * 128), NOT])
        self.fails_at(InvalidTable, 0, joined_table, 2, AND, [(-1, ()), NOT])
        self.fails_at(InvalidTable, 0, joined_table, 2, AND, [(-1, (0,)), (-1, (0,))])
        self.fails_at(InvalidOperation, -1, joined_table, 2, TURN, None)

    def test_lists_for_tuples(self):
        self.same_in_lists(need_operation, 2, AND)
        self.same_in_lists(need_book, (3, (LEAST, TURN)))
        self.same_in_lists(held_table, 3, LEAST, (None, 1))
        self.same_in_lists(settled_value, 3, LEAST, (None, 0))
        self.same_in_lists(hung_places, 3, LEAST)
        self.same_in_lists(least_table, 3, LEAST)
        self.same_in_lists(two_places, 3, LEAST)
        self.same_in_lists(joined_table, 3, LEAST, (TURN, TURN))


if __name__ == "__main__":
    unittest.main()
