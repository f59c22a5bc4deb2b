"""[40], [41]: how many operations a whole book has, their forms and numbers."""

import itertools
import unittest

from foldsall.books import apart_pairs, greatest_over, keeps_pairs, pairs_kind
from foldsall.counts import (formed_operation, joining_count, looked_form, nth_operation, operation_number, whole_count,
                             whole_operations)
from foldsall.errors import InvalidArrows, InvalidBook, InvalidIndex, InvalidOperation, InvalidTree, Refused
from tests.helpers import (AND, ANYTHING, LEAST, MOST, NOT, OR, TURN, XOR, Fails, all_operations, changed, no_rows_of,
                           no_sequences, rows_of)
from tests.test_books import brute_keeps, brute_maps, lots_of_pairs, whole_part

SIDES, COLOURS = ((0, 1),), ((0, 1), (1, 0))
# One value is free: 2.
FREE = ("look", 0, (1, 0), (("told", 2),))


def power(base, times):
    return base ** times


def told_count(size, pairs, places):
    """The number by the formula of the document."""
    tied = sorted({value for pair in apart_pairs(size, pairs) for value in pair})
    ways = sum(all((row[tied.index(one)], row[tied.index(other)]) in pairs for one, other in pairs)
               for row in rows_of(size, len(tied)))
    many = size
    for least in range(1, places + 1):
        many = size + least * ways * power(many, size - len(tied))
    return many


def form_key(form):
    return (0, form[1]) if form[0] == "told" else (1, form[1], form[2], tuple(form_key(part) for part in form[3]))


class WholeTest(Fails, unittest.TestCase):
    def test_whole_operations(self):
        for size in (2, 3):
            for pairs in lots_of_pairs(size):
                whole = whole_part(size, pairs)
                for places in (1, 2):
                    wanted = tuple(sorted(answers for many, answers in whole if many == places))
                    self.assertEqual(whole_operations(size, list(pairs), places), wanted)
                    self.assertEqual(whole_count(size, pairs[::-1], places), len(wanted))

    def test_whole_operations_of_two_values_in_full(self):
        for pairs in lots_of_pairs(2):
            for places in (1, 2):
                wanted = tuple(answers for _, answers in all_operations(2, places)
                               if keeps_pairs(2, pairs, (places, answers)))
                self.assertEqual(whole_operations(2, pairs, places), wanted)
            if pairs_kind(2, pairs) == "colours":
                many = sum(keeps_pairs(2, pairs, operation) for operation in all_operations(2, 3))
                self.assertEqual(whole_count(2, pairs, 3), many)

    def test_formula(self):
        for size in (2, 3):
            for pairs in lots_of_pairs(size):
                if pairs_kind(size, pairs) == "colours":
                    for places in range(1, 5):
                        self.assertEqual(whole_count(size, pairs, places), told_count(size, pairs, places))
        for pairs in list(lots_of_pairs(4))[::37]:
            if pairs_kind(4, pairs) == "colours":
                self.assertEqual(whole_count(4, pairs, 3), told_count(4, pairs, 3))
        self.assertEqual([whole_count(3, COLOURS, places) for places in (1, 2, 3, 4)], [9, 39, 237, 1899])

    def test_sides_of_four_values(self):
        for pairs in (((0, 1),), ((0, 2), (1, 2), (0, 3)), ((3, 0), (3, 1), (3, 2)), ((0, 1), (2, 3))):
            lines = [row for row in rows_of(4, 4) if len(set(row)) == 1 or row in brute_maps(4, pairs)]
            self.assertEqual(whole_count(4, pairs, 1), len(lines))
        # Counted by going through all rows of rows.
        pairs = ((0, 2), (1, 3), (0, 3))
        lines = [row for row in rows_of(4, 4) if len(set(row)) == 1 or row in brute_maps(4, pairs)]
        many = 0
        known = set(lines)
        for rows in itertools.product(lines, repeat=4):
            if all(column in known for column in zip(*rows)) and brute_keeps(4, pairs, (2, sum(rows, ()))):
                many += 1
        self.assertEqual(whole_count(4, pairs, 2), many)
        self.assertEqual(whole_count(4, ((0, 1), (0, 2), (0, 3)), 2), 19744)

    def test_joining_counts(self):
        self.assertEqual(joining_count((3, ()), 2), 183)
        for book in [(2, ()), (2, (AND,)), (2, (NOT,)), (2, (XOR,)), (2, (AND, OR)), (3, (LEAST,)), (3, (LEAST, MOST)),
                     (3, (TURN,)), (3, (TURN, LEAST))]:
            for places in (1, 2):
                wanted = {answers for pairs in greatest_over(book)
                          for answers in whole_operations(book[0], pairs, places)}
                self.assertEqual(joining_count(book, places), len(wanted))
                if book[0] == 2 or places == 1:
                    many = sum(len(greatest_over((book[0], book[1] + (operation,)))) > 0
                               for operation in all_operations(book[0], places))
                    self.assertEqual(joining_count(book, places), many)
        self.assertEqual(joining_count((2, (XOR,)), 1), 0)


class FormsTest(Fails, unittest.TestCase):
    def test_forms_and_numbers(self):
        for size in (2, 3):
            for pairs in lots_of_pairs(size):
                if pairs_kind(size, pairs) == "sides":
                    continue
                for places in (1, 2, 3):
                    many = whole_count(size, pairs, places)
                    if many > 250:
                        continue
                    forms, operations = [], []
                    for number in range(many):
                        operation = nth_operation(size, pairs, places, number)
                        form = looked_form(size, pairs, operation)
                        self.assertEqual(operation_number(size, pairs, operation), number)
                        self.assertEqual(formed_operation(size, pairs, places, form), operation)
                        forms.append(form)
                        operations.append(operation)
                        self.assertTrue(keeps_pairs(size, pairs, operation))
                    self.assertEqual(forms, sorted(forms, key=form_key))
                    self.assertEqual(len(set(operations)), many)

    def test_told_forms(self):
        self.assertEqual(looked_form(2, COLOURS, (2, (1, 1, 1, 1))), ("told", 1))
        self.assertEqual(looked_form(2, COLOURS, (2, (1, 0, 1, 0))), ("look", 1, (1, 0), ()))
        self.assertEqual(looked_form(3, COLOURS, (1, (1, 0, 2))), FREE)
        self.assertEqual(formed_operation(3, COLOURS, 1, FREE), (1, (1, 0, 2)))
        inner = ("look", 0, (0, 1), (("told", 2),))
        operation = (2, (1, 1, 1, 0, 0, 0, 0, 1, 2))
        self.assertEqual(looked_form(3, COLOURS, operation), ("look", 0, (1, 0), (inner,)))
        # Places are numbered anew: what looks at place 0 within a form of place 0 looks at place 1.
        self.assertEqual(formed_operation(3, COLOURS, 2, ("look", 1, (1, 0), (inner,))),
                         (2, (1, 0, 0, 1, 0, 1, 1, 0, 2)))
        self.assertEqual([nth_operation(2, COLOURS, 1, number)[1] for number in range(4)],
                         [(0, 0), (1, 1), (0, 1), (1, 0)])
        self.assertEqual(nth_operation(2, COLOURS, 2, 5), (2, (1, 0, 1, 0)))

    def test_great_numbers(self):
        pairs = ((0, 1), (1, 0))
        many = whole_count(4, pairs, 3)
        for number in (0, 3, 4, many // 3, many // 2 + 7, many - 1):
            operation = nth_operation(4, pairs, 3, number)
            self.assertEqual(operation_number(4, pairs, operation), number)
        self.fails_at(InvalidIndex, -1, nth_operation, 4, pairs, 3, many)

    def test_wrong_forms(self):
        wrong = list(ANYTHING) + [
            ("told", 3), ("told", True), ("told",), ["told", 1], ("told", 1, 1), ("look", 1, (1, 0), (("told", 2),)),
            ("look", 0, (0, 0), (("told", 2),)), ("look", 0, (1, 2), (("told", 2),)), ("look", 0, [1, 0], (("told", 2),)),
            ("look", 0, (1, 0), [("told", 2)]), ("look", 0, (1, 0), ()), ("look", 0, (1, 0), (("told", 2),) * 2),
            ("look", True, (1, 0), (("told", 2),)), ("look", 0, (True, False), (("told", 2),)), ("look", 0, (1, 0), (FREE,)),
            ("look", 0, None, (("told", 2),)), ("look", 0, 10, (("told", 2),)), ("look", 0, (1,), (("told", 2),)),
            ("look", 0, (1, 0), None), (None, 0, (1, 0), (("told", 2),)), ("look", 0, (1, 0, 2), (("told", 2),)), ("looks", 0, (1, 0), (("told", 2),))]
        for form in wrong:
            self.fails_at(InvalidTree, -1, formed_operation, 3, COLOURS, 1, form)
            self.fails_at(InvalidTree, -1, formed_operation, 3, COLOURS, 2, ("look", 0, (1, 0), (form,)))
        for form in changed(FREE):
            try:
                operation = formed_operation(3, COLOURS, 1, form)
                self.assertEqual(looked_form(3, COLOURS, operation), form)
            except InvalidTree as error:
                self.assertEqual(error.at, -1)


class WrongTest(Fails, unittest.TestCase):
    def test_sizes_and_pairs(self):
        functions = [lambda size, pairs: whole_count(size, pairs, None),
                     lambda size, pairs: looked_form(size, pairs, None),
                     lambda size, pairs: formed_operation(size, pairs, None, None),
                     lambda size, pairs: nth_operation(size, pairs, None, None),
                     lambda size, pairs: operation_number(size, pairs, None),
                     lambda size, pairs: whole_operations(size, pairs, None)]
        for function in functions:
            for size in ANYTHING + (5, 8):
                self.fails_size("size", function, size, None)
            for pairs in no_sequences() + [()]:
                self.fails_at(InvalidArrows, -1, function, 3, pairs)
            for pair in no_rows_of(2) + [(0, 3), (1, 1), (True, 0)]:
                self.fails_at(InvalidArrows, 1, function, 3, [(0, 1), pair])
            self.fails_at(InvalidArrows, 1, function, 3, [(0, 1), (0, 1)])
        self.fails_size("size", whole_operations, 4, None, None)
        self.fails_size("size", joining_count, (4, ()), None)

    def test_places(self):
        wrong = [places for places in ANYTHING if type(places) is not int or not 1 <= places <= 4] + [5]
        for places in wrong:
            self.fails_size("places", whole_count, 3, COLOURS, places)
            self.fails_size("places", formed_operation, 3, COLOURS, places, None)
            self.fails_size("places", nth_operation, 3, COLOURS, places, None)
            self.fails_size("places", whole_operations, 3, COLOURS, places)
            self.fails_size("places", joining_count, (3, ()), places)
        for places in (3, 4):
            self.fails_size("places", whole_count, 3, SIDES, places)
            self.fails_size("places", whole_operations, 3, COLOURS, places)
            self.fails_size("places", joining_count, (3, ()), places)
        self.fails_size("places", formed_operation, 3, COLOURS, 4, None)
        self.fails_size("places", nth_operation, 3, COLOURS, 4, 0)

    def test_kinds(self):
        # Places are told ahead of the kind, operations too; forms and numbers behind it.
        self.fails_size("places", formed_operation, 3, SIDES, 0, None)
        self.fails_size("places", nth_operation, 3, SIDES, 0, None)
        self.fails_at(Refused, "kind", formed_operation, 3, SIDES, 1, None)
        self.fails_at(Refused, "kind", nth_operation, 3, SIDES, 1, None)
        for function in (looked_form, operation_number):
            for value in list(ANYTHING) + [AND]:
                self.fails_at(InvalidOperation, -1, function, 3, SIDES, value)
            self.fails_at(Refused, "kind", function, 3, SIDES, TURN)
            self.fails_at(Refused, "operation", function, 3, COLOURS, TURN)
            self.fails_at(Refused, "operation", function, 2, COLOURS, AND)

    def test_numbers(self):
        for number in ANYTHING:
            if type(number) is not int or not 0 <= number < 9:
                self.fails_at(InvalidIndex, -1, nth_operation, 3, COLOURS, 1, number)

    def test_books(self):
        for value in no_rows_of(2):
            self.fails_at(InvalidBook, -1, joining_count, value, None)
        self.fails_at(InvalidBook, 1, joining_count, (3, (MOST, AND)), None)

    def test_names_and_lists(self):
        self.same_in_lists(whole_count, 3, COLOURS, 2)
        self.same_in_lists(whole_operations, 3, COLOURS, 1)
        self.same_in_lists(looked_form, 3, COLOURS, (1, (1, 0, 2)))
        self.same_in_lists(operation_number, 3, COLOURS, (1, (1, 0, 2)))
        self.same_in_lists(nth_operation, 3, COLOURS, 2, 30)
        self.same_in_lists(joining_count, (3, (LEAST,)), 1)
        self.assertEqual(formed_operation(size=3, pairs=[[0, 1], [1, 0]], places=1, form=FREE), (1, (1, 0, 2)))


if __name__ == "__main__":
    unittest.main()
