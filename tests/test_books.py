"""[38], [39]: whole books, kept maps, apart pairs, the greatest books."""

import itertools
import unittest

from foldsall.books import (all_greatest, apart_pairs, further_map, greatest_over, grown_pairs, keeps_pairs, kept_maps,
                            pairs_kind)
from foldsall.errors import InvalidArrows, InvalidBook, InvalidOperation
from tests.helpers import (AND, ANYTHING, LEAST, MOST, NOT, OR, TURN, XOR, Fails, all_operations, answer, changed,
                           no_rows_of, no_sequences, no_values, rows_of)
from tests.test_arrows import brute_are, brute_least

FUNCTIONS = (kept_maps, apart_pairs, pairs_kind, grown_pairs, further_map)


def lots_of_pairs(size):
    couples = list(itertools.permutations(range(size), 2))
    for many in range(1, len(couples) + 1):
        yield from itertools.combinations(couples, many)


def brute_keeps(size, pairs, operation):
    return brute_are((size, (operation,)), set(pairs))


def brute_maps(size, pairs):
    return tuple(row for row in rows_of(size, size) if all((row[one], row[other]) in pairs for one, other in pairs))


def brute_apart(size, pairs):
    return tuple((one, other) for one, other in itertools.permutations(range(size), 2)
                 if all(row[one] != row[other] for row in brute_maps(size, pairs)))


def brute_grown(size, pairs):
    firsts, seconds = {one for one, _ in pairs}, {other for _, other in pairs}
    if not firsts & seconds:
        return tuple(itertools.product(sorted(firsts), sorted(seconds)))
    while True:
        apart = brute_apart(size, pairs)
        many = min(len(set(row)) for row in brute_maps(size, apart))
        cliques = {couple for lot in itertools.combinations(range(size), many)
                   if set(itertools.permutations(lot, 2)) <= set(apart) for couple in itertools.permutations(lot, 2)}
        behind = brute_apart(size, cliques)
        if behind == pairs:
            return behind
        pairs = behind


def whole_part(size, pairs):
    """All operations of the whole book of one and two places."""
    lines = [row for row in rows_of(size, size) if len(set(row)) == 1 or row in brute_maps(size, pairs)]
    found = [(1, row) for row in lines]
    for rows in itertools.product(lines, repeat=size):
        if all(column in lines for column in zip(*rows)):
            operation = (2, sum(rows, ()))
            if brute_keeps(size, pairs, operation):
                found.append(operation)
    return found


def keep_some(size, operations):
    """Whether some pairs are kept by all operations, as many as there may be."""
    return any(all(first != second for first, second in brute_least((size, operations), one, other))
               for one, other in itertools.permutations(range(size), 2))


class BooksTest(Fails, unittest.TestCase):
    def test_keeps_pairs(self):
        for size, places in ((2, 1), (2, 2), (2, 3), (3, 1)):
            for pairs in lots_of_pairs(size):
                for operation in all_operations(size, places):
                    self.assertIs(keeps_pairs(size, pairs, operation), brute_keeps(size, pairs, operation))
        for pairs in lots_of_pairs(3):
            for operation in (LEAST, MOST, (2, (0, 0, 0, 1, 1, 1, 2, 2, 2)), (2, (1,) * 9)):
                self.assertIs(keeps_pairs(3, list(pairs[::-1]), operation), brute_keeps(3, pairs, operation))

    def test_maps_and_pairs(self):
        for size in (2, 3):
            for pairs in lots_of_pairs(size):
                self.assertEqual(kept_maps(size, pairs[::-1]), brute_maps(size, pairs))
                self.assertEqual(apart_pairs(size, pairs), brute_apart(size, pairs))
                self.assertEqual(grown_pairs(size, pairs), brute_grown(size, pairs))
                mixed = {one for one, _ in pairs} & {other for _, other in pairs}
                self.assertEqual(pairs_kind(size, pairs), "colours" if mixed else "sides")

    def test_four_values(self):
        for pairs in list(lots_of_pairs(4))[::61]:
            self.assertEqual(kept_maps(4, pairs), brute_maps(4, pairs))
            self.assertEqual(apart_pairs(4, pairs), brute_apart(4, pairs))
            self.assertEqual(grown_pairs(4, pairs), brute_grown(4, pairs))
        ring = [(0, 1), (1, 2), (2, 3), (3, 0)]
        self.assertEqual(kept_maps(4, ring), ((0, 1, 2, 3), (1, 2, 3, 0), (2, 3, 0, 1), (3, 0, 1, 2)))

    def test_further_maps(self):
        for size in (2, 3):
            for pairs in lots_of_pairs(size):
                whole = whole_part(size, pairs)
                wanted = None
                for row in rows_of(size, size):
                    # By what is kept itself, with all operations of one and two places.
                    if (1, row) not in whole and keep_some(size, whole + [(1, row)]):
                        wanted = row
                        break
                self.assertEqual(further_map(size, pairs), wanted)

    def test_each_whole_book_lies_in_that_of_its_grown_pairs(self):
        for size in (2, 3):
            for pairs in lots_of_pairs(size):
                wider = grown_pairs(size, pairs)
                self.assertEqual(grown_pairs(size, wider), wider)
                self.assertIsNone(further_map(size, wider))
                for operation in whole_part(size, pairs):
                    self.assertTrue(keeps_pairs(size, wider, operation))

    def test_all_greatest(self):
        for size in (2, 3):
            greatest = []
            for pairs in lots_of_pairs(size):
                turned = tuple(sorted((other, one) for one, other in pairs))
                if brute_grown(size, pairs) == pairs and (pairs_kind(size, pairs) == "colours" or pairs < turned):
                    greatest.append(pairs)
                # Greatest are just those into which no map can be put.
                self.assertIs(further_map(size, pairs) is None,
                              frozenset(brute_maps(size, pairs)) in {frozenset(brute_maps(size, grown_pairs(size, pairs)))})
            self.assertEqual(all_greatest(size), tuple(sorted(greatest)))
            books = [frozenset(whole_part(size, pairs)) for pairs in all_greatest(size)]
            self.assertEqual(len(set(books)), len(books))
        self.assertEqual(len(all_greatest(4)), 64)
        for pairs in all_greatest(4):
            self.assertEqual(grown_pairs(4, pairs), pairs)

    def test_looks_at_one_place(self):
        """Of colours what isn't constant is told by one place at tied values."""
        for size in (2, 3):
            for pairs in lots_of_pairs(size):
                if pairs_kind(size, pairs) == "sides":
                    continue
                tied = {value for pair in apart_pairs(size, pairs) for value in pair}
                for operation in whole_part(size, pairs):
                    if operation[0] == 2 and len(set(operation[1])) > 1:
                        looks = [place for place in range(2) if all(
                            len({answer(size, operation, row) for row in rows_of(size, 2) if row[place] == value}) == 1
                            for value in tied)]
                        self.assertEqual(len(looks), 1)

    def test_greatest_over(self):
        books = [(2, couple) for couple in itertools.combinations((AND, OR, NOT, XOR), 2)]
        books += [(3, (LEAST,)), (3, (LEAST, MOST)), (3, (TURN,)), (3, ()), (2, ()), (4, ((1, (1, 2, 3, 0)),))]
        for book in books:
            wanted = tuple(pairs for pairs in all_greatest(book[0]) if brute_are(book, set(pairs)))
            self.assertEqual(greatest_over(book), wanted)
            self.assertIs(len(wanted) > 0, keep_some(book[0], list(book[1])))
        self.assertEqual(greatest_over((2, (AND, XOR))), ())

    def test_told_examples(self):
        self.assertEqual(all_greatest(2), (((0, 1),), ((0, 1), (1, 0))))
        self.assertEqual(further_map(3, [(0, 1), (1, 2)]), (0, 0, 2))

    def test_wrong_sizes(self):
        for size in ANYTHING + (5, 8, -2):
            for function in FUNCTIONS:
                self.fails_size("size", function, size, None)
            self.fails_size("size", keeps_pairs, size, None, None)
            self.fails_size("size", all_greatest, size)
        self.fails_size("size", greatest_over, (5, ()))
        for value in no_rows_of(2):
            self.fails_at(InvalidBook, -1, greatest_over, value)
        self.fails_at(InvalidBook, 0, greatest_over, (5, (AND,)))

    def test_wrong_pairs(self):
        for function in FUNCTIONS + (lambda size, pairs: keeps_pairs(size, pairs, None),):
            for value in no_sequences() + [(), []]:
                self.fails_at(InvalidArrows, -1, function, 3, value)
            for value in no_rows_of(2):
                self.fails_at(InvalidArrows, 0, function, 3, [value])
                self.fails_at(InvalidArrows, 1, function, 3, [(0, 1), value, (0, 1)])
            for value in no_values(3):
                self.fails_at(InvalidArrows, 0, function, 3, [(value, 0), None])
                self.fails_at(InvalidArrows, 0, function, 3, [(0, value)])
            self.fails_at(InvalidArrows, 0, function, 3, [(1, 1)])
            self.fails_at(InvalidArrows, 2, function, 3, [(0, 1), (1, 0), [0, 1], (0, 5)])
        for value in list(ANYTHING) + [AND, (4, (0,) * 81)]:
            self.fails_at(InvalidOperation, -1, keeps_pairs, 3, [(0, 1)], value)
        self.fails_at(InvalidArrows, 0, keeps_pairs, 3, [None], None)

    def test_changed_pairs(self):
        for pairs in changed(((0, 1), (1, 2))):
            try:
                self.assertIn(pairs_kind(3, pairs), ("sides", "colours"))
            except InvalidArrows as error:
                self.assertIn(error.at, (-1, 0, 1, 2))

    def test_lists_for_tuples(self):
        for function in FUNCTIONS:
            self.same_in_lists(function, 3, ((1, 2), (0, 1)))
        self.same_in_lists(keeps_pairs, 3, ((1, 2), (0, 1)), LEAST)
        self.same_in_lists(greatest_over, (3, (LEAST,)))
        self.same_in_lists(all_greatest, 3)


if __name__ == "__main__":
    unittest.main()
