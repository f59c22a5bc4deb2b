"""[56], [57]: the fewest operations to strike until nothing is missed, and values that may be told."""

import itertools
import random
import unittest

from foldsall.errors import InvalidBook, InvalidPrices, InvalidProgram
from foldsall.lots import lot_paper
from foldsall.mends import fewest_strikes, let_constants, strikes_hold
from tests.helpers import (AND, ANYTHING, KEEP, LEAST, MOST, NOT, OR, SAME, TURN, XOR, Fails, all_operations, changed,
                           has_lists, in_lists, no_rows_of, no_sequences, rows_of)
from tests.test_court import end_row, is_story
from tests.test_lots import is_closed, is_let, is_paper, lots

WRONG = (1, (1, 1))
BOOKS = [((2, (AND, OR, NOT, XOR)), (1, 1, 1, 1)), ((2, (AND, OR, NOT, XOR)), (4, 3, 2, 1)), ((2, (XOR, SAME)), (2, 3)),
         ((2, ()), ()), ((3, (LEAST, MOST, TURN)), (1, 1, 2)), ((3, (LEAST, (1, (1, 1, 2)), (1, (0, 1, 1)))), (3, 1, 1)),
         ((3, ((1, (1, 0, 2)), (1, (0, 0, 2)), (2, (1,) * 9))), (1, 4, 1)), ((2, (AND, AND, NOT, NOT, OR)), (1, 2, 1, 1, 3)),
         ((2, (KEEP, (3, (0, 0, 0, 1, 0, 1, 1, 1)), NOT, (3, (0, 0, 0, 1, 1, 1, 1, 1)))), (1, 2, 2, 1)),
         ((4, ((1, (1, 2, 3, 0)), (1, (0, 1, 2, 0)))), (2, 2)),
         ((4, ((2, tuple(min(row) for row in rows_of(4, 2))), (2, tuple(max(row) for row in rows_of(4, 2))))), (1, 1))]


def price_of(prices, lot):
    return sum(prices[number] for number in lot)


def others(book, lot):
    return tuple(number for number in range(len(book[1])) if number not in lot)


def used(program):
    return sorted({row[1] for row in program[1] if row[0] == "of"})


def is_tree(book, prices, price, pair, struck, tree):
    if not isinstance(tree, tuple) or not tree:
        return False
    if tree[0] == "struck":
        return len(tree) == 2 and repr(tree[1]) == repr(tuple(sorted(struck))) and price_of(prices, struck) >= price
    if tree[0] != "story" or len(tree) != 3 or not isinstance(tree[2], tuple):
        return False
    try:
        if not is_story(book, tree[1]):
            return False
    except InvalidProgram:
        return False
    ends = end_row(book, tree[1])
    numbers = used(tree[1])
    if ends[pair[0]] != ends[pair[1]] or struck & set(numbers) or len(tree[2]) != len(numbers):
        return False
    return all(is_tree(book, prices, price, pair, struck | {number}, below) for number, below in zip(numbers, tree[2]))


def is_right(book, prices, paper):
    """By the words of the document."""
    if not isinstance(paper, tuple) or has_lists(paper) or len(paper) != 4:
        return False
    price, lot, pairs, trees = paper
    if not isinstance(lot, tuple) or not all(type(one) is int and 0 <= one < len(book[1]) for one in lot):
        return False
    if list(lot) != sorted(set(lot)) or type(price) is not int or price != price_of(prices, lot):
        return False
    try:
        if not is_paper(book, others(book, lot), tuple(range(book[0])), ("let", pairs)):
            return False
    except (TypeError, IndexError):
        return False
    couples = list(itertools.combinations(range(book[0]), 2))
    if not isinstance(trees, tuple) or len(trees) != len(couples):
        return False
    return all(is_tree(book, prices, price, pair, set(), tree) for pair, tree in zip(couples, trees))


def cheapest(book, prices):
    values = range(book[0])
    return min(price_of(prices, lot) for lot in lots(len(book[1])) if is_let(book, others(book, lot), values))


class StrikesTest(Fails, unittest.TestCase):
    def look(self, book, prices):
        paper = fewest_strikes(book, prices)
        self.assertFalse(has_lists(paper))
        self.assertEqual(paper[0], cheapest(book, prices))
        self.assertTrue(is_right(book, prices, paper), (book, prices, paper))
        self.assertIs(strikes_hold(book, prices, paper), True)
        return paper

    def test_papers(self):
        for book, prices in BOOKS:
            self.look(book, prices)
        self.assertEqual(fewest_strikes((2, (AND, OR, NOT, XOR)), (1, 1, 1, 1))[:2], (2, (2, 3)))
        self.assertEqual(fewest_strikes((2, (AND, XOR)), [1, 2])[:2], (2, (1,)))
        self.assertEqual(fewest_strikes((2, (AND,)), (7,)), (0, (), ((0, 1),), (("struck", ()),)))
        dice = random.Random(1)
        for at in range(90):
            size = (2, 2, 3)[at % 3]
            operations = all_operations(size, 1) + (all_operations(2, 2) if size == 2 else [LEAST, MOST] * 5)
            lot = tuple(dice.choice(operations) for _ in range(dice.randrange(1, 6)))
            self.look((size, lot), tuple(dice.randrange(1, 5) for _ in lot))

    def test_any_papers(self):
        book, prices = (2, (XOR, SAME)), (1, 1)
        story = (((0, 1),), (("of", 0, (0, 0)),), (1,))
        other = (((0, 1),), (("of", 1, (0, 0)),), (1,))
        both = (((0, 1),), (("of", 0, (0, 0)), ("of", 1, (1, 1))), (2,))
        leaf = [("struck", lot) for lot in ((), (0,), (1,), (0, 1))]
        pairs = ((0, 1), (1, 0))
        tree = ("story", story, (("story", other, (leaf[3],)),))
        for told in (tree, ("story", other, (("story", story, (leaf[3],)),)),
                     ("story", both, (("story", other, (leaf[3],)), ("story", story, (leaf[3],))))):
            for lot in (((0, 1)), ((1, 0, ))):
                self.assertIs(strikes_hold(book, prices, (2, lot, pairs, (told,))), lot == (0, 1))
            self.assertIs(strikes_hold(book, prices, (2, (0, 1), ((0, 1),), (told,))), True)
        for told in (leaf[0], leaf[3], ("story", story, (leaf[1],)), ("story", story, (leaf[3],)), ("story", story, ()),
                     ("story", both, (("story", other, (leaf[3],)),)), ("story", story, (("story", story, (leaf[3],)),)),
                     ("story", other, (("story", other, (leaf[3],)),)), ("story", story, (("story", other, (leaf[2],)),)),
                     ("story", story, (("story", other, (("struck", (1, 0)),)),))):
            self.assertIs(strikes_hold(book, prices, (2, (0, 1), pairs, (told,))), False)
        # With a price of one, one operation struck is enough: but it mends nothing.
        self.assertIs(strikes_hold(book, prices, (1, (0,), pairs, (("story", story, (leaf[1],)),))), False)
        self.assertIs(strikes_hold((2, (XOR, AND)), (1, 1), (1, (0,), ((0, 1),), (("story", story, (leaf[1],)),))), True)
        self.assertIs(strikes_hold((2, (XOR, AND)), (1, 1), (1, (0,), ((0, 1),), (("story", story, (leaf[2],)),))), False)
        self.assertIs(strikes_hold((2, (XOR, AND)), (1, 1), (2, (0, 1), ((0, 1),), (("story", story, (leaf[1],)),))), False)
        # Further down than the price asks is let, where there is a story.
        two = (2, (XOR, XOR, AND))
        deeper = ("story", story, (("story", other, (("struck", (0, 1)),)),))
        self.assertIs(strikes_hold(two, (1, 1, 1), (2, (0, 1), ((0, 1),), (deeper,))), True)
        self.assertIs(strikes_hold(two, (3, 1, 1), (4, (0, 1), ((0, 1),), (deeper,))), True)
        self.assertIs(strikes_hold(two, (1, 1, 1), (2, (0, 1), ((0, 1),), (("story", story, (("struck", (0,)),)),))), False)

    def test_changed_papers(self):
        for book, prices in (((2, (AND, NOT)), (1, 1)), ((2, (XOR, AND)), (1, 2)), ((2, (XOR, SAME)), (2, 1)),
                             ((3, ((1, (0, 0, 1)), (1, (1, 1, 2)))), (1, 3)), ((2, ()), ())):
            paper = fewest_strikes(book, prices)
            for value in itertools.chain(changed(paper), ANYTHING, (paper[:3], paper + ((),), paper[3])):
                told = strikes_hold(book, prices, value)
                self.assertIs(type(told), bool)
                self.assertEqual(told, is_right(book, prices, value), value)

    def test_no_lot_of_less_price_mends(self):
        """What holds tells the least price: no other one does."""
        for book, prices in BOOKS[:6]:
            paper = fewest_strikes(book, prices)
            for lot in lots(len(book[1])):
                told = (price_of(prices, lot), lot, paper[2], paper[3])
                self.assertEqual(strikes_hold(book, prices, told), is_right(book, prices, told))
                if strikes_hold(book, prices, told):
                    self.assertEqual(told[0], paper[0])

    def test_the_limits(self):
        """Four values, five operations of two places; three places of two values."""
        lot = [tuple(function(*row) % 4 for row in rows_of(4, 2)) for function in (
            min, max, lambda one, other: one + other, lambda one, other: one - other, lambda one, other: one * other)]
        paper = fewest_strikes((4, tuple((2, one) for one in lot)), (1, 2, 3, 4, 1))
        self.assertIs(strikes_hold((4, tuple((2, one) for one in lot)), (1, 2, 3, 4, 1), paper), True)
        threes = all_operations(2, 3)
        book = (2, (threes[23], threes[105], threes[128], threes[232], threes[150]))
        self.assertIs(strikes_hold(book, (1,) * 5, fewest_strikes(book, (1,) * 5)), True)

    def test_wrong_inputs(self):
        book = (2, (AND, NOT))
        for function in (fewest_strikes, lambda *told: strikes_hold(*told, None)):
            for value in no_rows_of(2):
                self.fails_at(InvalidBook, -1, function, value, None)
                self.fails_at(InvalidPrices, -1, function, book, value)
            for value in no_sequences():
                self.fails_at(InvalidPrices, -1, function, (2, ()), value)
            for value in ANYTHING + (-4,):
                if type(value) is not int or value < 1:
                    self.fails_at(InvalidPrices, 0, function, book, (value, value))
                    self.fails_at(InvalidPrices, 1, function, book, [1, value])
        self.same_in_lists(fewest_strikes, book, (1, 2))
        self.assertIs(strikes_hold(value=fewest_strikes(book, (1, 2)), prices=[1, 2], book=in_lists(book)), True)


class ConstantsTest(Fails, unittest.TestCase):
    def test_let_constants(self):
        self.assertEqual(let_constants((2, (AND, OR))), ((0, 1),))
        self.assertEqual(let_constants((2, ())), ((0, 1),))
        self.assertEqual(let_constants((2, (XOR,))), ())
        self.assertEqual(let_constants((2, (NOT,))), ((0, 1),))
        dice = random.Random(2)
        books = [book for book, _ in BOOKS]
        for at in range(150):
            size = (2, 3, 3)[at % 3]
            operations = all_operations(size, 1) + (all_operations(2, 2) + [WRONG] if size == 2 else [LEAST, MOST] * 8)
            books.append((size, tuple(dice.choice(operations) for _ in range(dice.randrange(4)))))
        for _ in range(60):
            books.append((3, ((2, tuple(dice.choice((0, 1, 1, 2)) for _ in range(9))),)))
        for answers in ((0, 0, 0, 2, 1, 0, 0, 2, 2), (0, 0, 1, 0, 1, 0, 1, 0, 2), (0, 0, 2, 0, 1, 0, 0, 1, 2)):
            books.append((3, ((2, answers),)))
        self.assertEqual(let_constants(books[-1]), ((0,), (1,)))
        some = {0: 0, 1: 0, 2: 0}
        for book in books:
            numbers = tuple(range(len(book[1])))
            let = [values for values in lots(book[0]) if is_closed(book, numbers, values) and is_let(book, numbers, values)]
            greatest = tuple(sorted(values for values in let if not any(set(values) < set(other) for other in let)))
            self.assertEqual(let_constants(book), greatest)
            some[min(2, len(greatest))] += 1
            # What lies in a let one, and is closed, is let; so are fewer operations.
            for values in let:
                for other in lots(book[0]):
                    if set(other) <= set(values) and is_closed(book, numbers, other):
                        self.assertIn(other, let)
                for lot in lots(len(book[1])):
                    self.assertEqual(lot_paper(book, lot, values)[0], "let")
        self.assertTrue(all(many > 2 for many in some.values()))

    def test_wrong_inputs(self):
        for value in no_rows_of(2):
            self.fails_at(InvalidBook, -1, let_constants, value)
        self.same_in_lists(let_constants, (3, (LEAST, TURN)))
        self.assertEqual(let_constants(book=(2, [KEEP])), ((0, 1),))


if __name__ == "__main__":
    unittest.main()
