"""[21], [22], [23]: how short programs are that bring values together, or that are constant and left open."""

import itertools
import random
import unittest

from foldsall.arrows import book_tables, sure_pairs
from foldsall.court import court_paper
from foldsall.errors import InvalidBook, InvalidIndex, InvalidSize, Refused
from foldsall.ladder import Search, fewest_lines, merging_program, story_program, turn_book, word_holds, word_paper
from tests.helpers import (AND, ANYTHING, KEEP, LEAST, MOST, NOT, OR, TURN, XOR, Fails, all_operations, answer, changed,
                           has_lists, in_lists, no_rows_of, no_values, rows_of)
from tests.test_arrows import held_operations, small_books
from tests.test_court import end_row, is_story


def lines_of(program):
    return sum(row[0] == "of" for row in program[1])


def brute_fewest(book, most):
    """The fewest lines, by all lots of rows that lines make, one line more each time."""
    size = book[0]
    tables = list(held_operations(book))
    lots = {frozenset([tuple(range(size))])}
    for many in range(1, most + 1):
        now = set()
        for lot in lots:
            for places, table in tables:
                for rows in itertools.product(sorted(lot), repeat=places):
                    row = tuple(table[values] for values in zip(*rows))
                    if len(set(row)) == 1:
                        return many
                    if row not in lot:
                        now.add(lot | {row})
        lots = now
    return None


def letters_of(book):
    return {at: answers for at, (_, answers) in enumerate(book[1]) if len(set(answers)) > 1}


def shortest(book):
    """How long the shortest word is that leads all values to one; None if there is none."""
    lots, seen, many = [tuple(range(book[0]))], set(), 0
    while lots:
        if any(len(set(lot)) == 1 for lot in lots):
            return many
        many += 1
        now = {tuple(sorted({step[value] for value in lot})) for lot in lots for step in letters_of(book).values()}
        lots = sorted(now - seen)
        seen |= now
    return None


def all_lots(size):
    return sorted(lot for many in range(1, size + 1) for lot in itertools.combinations(range(size), many))


def are_heights(book, told):
    """By the words of the document."""
    if not isinstance(told, tuple) or not all(isinstance(row, tuple) and len(row) == 2 for row in told):
        return False
    if repr([row[0] for row in told]) != repr(all_lots(book[0])):
        return False
    if not all(type(row[1]) is int and row[1] >= 0 and (row[1] == 0) == (len(row[0]) == 1) for row in told):
        return False
    known = dict(told)
    return all(known[tuple(sorted({step[value] for value in lot}))] >= known[lot] - 1
               for step in letters_of(book).values() for lot in known)


def is_right(book, paper):
    if not isinstance(paper, tuple) or has_lists(paper) or not paper:
        return False
    whole = tuple(range(book[0]))
    if paper[0] == "never" and len(paper) == 2:
        return are_heights(book, paper[1]) and dict(paper[1])[whole] == 2 ** book[0]
    if paper[0] != "word" or len(paper) != 3 or not isinstance(paper[1], tuple):
        return False
    if not all(type(letter) is int and letter in letters_of(book) for letter in paper[1]):
        return False
    row = whole
    for letter in paper[1]:
        row = tuple(book[1][letter][1][value] for value in row)
    return len(set(row)) == 1 and are_heights(book, paper[2]) and dict(paper[2])[whole] == len(paper[1])


def one_place_books(size, dice, many):
    operations = all_operations(size, 1)
    for _ in range(many):
        yield (size, tuple(dice.choice(operations) for _ in range(dice.randrange(3))))


class StoriesTest(Fails, unittest.TestCase):
    def test_merging_programs(self):
        longest = 0
        for book in small_books():
            size, pairs = book[0], sure_pairs(book)
            for one, other in itertools.permutations(range(size), 2):
                if (one, other) in pairs:
                    self.fails_at(Refused, -1, merging_program, book, one, other)
                    continue
                program = merging_program(book, one, other)
                self.assertFalse(has_lists(program))
                self.assertTrue(is_story(book, program))
                ends = end_row(book, program)
                self.assertEqual(ends[one], ends[other])
                self.assertLessEqual(lines_of(program), size * (size - 1))
                longest = max(longest, lines_of(program))
        self.assertGreater(longest, 1)

    def test_story_programs(self):
        for book in small_books():
            if court_paper(book)[0] == "arrows":
                self.fails_at(Refused, -1, story_program, book)
                continue
            program = story_program(book)
            self.assertFalse(has_lists(program))
            self.assertTrue(is_story(book, program))
            self.assertEqual(len(set(end_row(book, program))), 1)
            self.assertLessEqual(lines_of(program), book[0] * (book[0] - 1) ** 2)

    def test_long_stories(self):
        for values in range(3, 9):
            program = story_program(turn_book(values))
            self.assertEqual(len(set(end_row(turn_book(values), program))), 1)
            self.assertTrue((values - 1) ** 2 <= lines_of(program) <= values * (values - 1) ** 2)
        dice = random.Random(1)
        for size in (4, 5):
            for book in one_place_books(size, dice, 60):
                if court_paper(book)[0] == "story":
                    self.assertLessEqual(lines_of(story_program(book)), size * (size - 1) ** 2)
                for one, other in itertools.combinations(range(size), 2):
                    if (one, other) not in sure_pairs(book):
                        self.assertLessEqual(lines_of(merging_program(book, one, other)), size * (size - 1))

    def test_wrong_inputs(self):
        for value in no_rows_of(2):
            self.fails_at(InvalidBook, -1, merging_program, value, None, None)
            self.fails_at(InvalidBook, -1, story_program, value)
            self.fails_at(InvalidBook, -1, fewest_lines, value, None)
            self.fails_at(InvalidBook, -1, word_paper, value)
            self.fails_at(InvalidBook, -1, word_holds, value, None)
        for value in no_values(2):
            self.fails_at(InvalidIndex, 0, merging_program, (2, (AND,)), value, value)
            self.fails_at(InvalidIndex, 1, merging_program, (2, (AND,)), 0, value)
        self.fails_at(InvalidIndex, 1, merging_program, (2, (XOR,)), 1, 1)
        self.same_in_lists(merging_program, (3, (LEAST, MOST)), 0, 2)
        self.same_in_lists(story_program, (3, (LEAST, MOST)))


class LinesTest(Fails, unittest.TestCase):
    def test_turn_books(self):
        self.assertEqual(turn_book(3), (3, ((1, (1, 2, 0)), (1, (0, 1, 0)))))
        self.assertEqual((fewest_lines(turn_book(3), 4), fewest_lines(turn_book(3), 3)), (4, None))
        for values in range(3, 9):
            size, operations = turn_book(values)
            self.assertEqual(size, values)
            self.assertEqual(operations, ((1, tuple(range(1, values)) + (0,)), (1, tuple(range(values - 1)) + (0,))))
            fewest = (values - 1) ** 2
            self.assertEqual(fewest_lines(turn_book(values), fewest), fewest)
            self.assertEqual(fewest_lines(turn_book(values), 10 ** 9), fewest)
            self.assertIsNone(fewest_lines(turn_book(values), fewest - 1))
            self.assertEqual(len(word_paper(turn_book(values))[1]), fewest)
        for value in ANYTHING + (2, 9, -3):
            self.fails_size("values", turn_book, value)

    def test_two_values(self):
        operations = all_operations(2, 1) + all_operations(2, 2)
        for lot in itertools.chain([()], itertools.product(operations), itertools.product(operations[4:], repeat=2)):
            book = (2, lot)
            fewest = fewest_lines(book, 5)
            self.assertEqual(fewest is None, court_paper(book)[0] == "arrows")
            if fewest is not None:
                alike = any(table[(0,) * places] == table[(1,) * places] for places, table in held_operations(book))
                self.assertEqual(fewest, 1 if alike else 2)
                self.assertIsNone(fewest_lines(book, fewest - 1))
            self.assertEqual(fewest, brute_fewest(book, 3))
        for operation in all_operations(2, 3)[::3]:
            self.assertEqual(fewest_lines((2, (operation,)), 5), brute_fewest((2, (operation,)), 3))

    def test_three_values(self):
        for book in list(small_books())[::3]:
            if book[0] == 3:
                self.assertEqual(fewest_lines(book, 3), brute_fewest(book, 3))
        found = {}
        dice = random.Random(2)
        for _ in range(700):
            book = (3, tuple((2, tuple(dice.choice((0, 0, 1, 2)) for _ in range(9))) for _ in range(dice.randrange(1, 3))))
            fewest = fewest_lines(book, 4)
            self.assertEqual(fewest, brute_fewest(book, 3 if fewest is None else fewest))
            if fewest is not None:
                self.assertLessEqual(fewest, lines_of(story_program(book)))
                found[fewest] = found.get(fewest, 0) + 1
        self.assertGreaterEqual(len(found), 2)

    def test_one_place(self):
        dice = random.Random(3)
        for size in (2, 3, 4, 5):
            for book in one_place_books(size, dice, 50):
                self.assertEqual(fewest_lines(book, 30), shortest(book))
        # Places on which nothing hangs are told anything.
        book = (3, ((2, tuple((1, 2, 0)[row[1]] for row in rows_of(3, 2))), (3, tuple((0, 1, 0)[row[0]] for row in rows_of(3, 3)))))
        self.assertEqual(fewest_lines(book, 9), 4)

    def test_searches_through_lots_of_rows(self):
        """Several places bring values together soon; so longer searches are looked at with one place."""
        dice = random.Random(5)
        books = [turn_book(3)] + [book for book in one_place_books(4, dice, 500) if 3 < (shortest(book) or 0) < 7]
        books += [book for book in one_place_books(3, dice, 100) if 1 < (shortest(book) or 0) < 7]
        self.assertGreater(len(books), 12)
        for book in books:
            search, many = Search(book[0], book_tables(book)), 1
            while not search.is_done:
                search.go_on()
                many += 1
            self.assertEqual(many, shortest(book))

    def test_lots_of_a_search(self):
        """Each lot has the first row and one more a line, each made of those ahead; and all that one more line makes."""
        sizes = []
        for book in ((3, (LEAST,)), (3, (MOST, LEAST)), (2, (AND, OR)), (3, (LEAST, (1, (0, 0, 1)))),
                     (4, ((2, tuple(min(row) for row in rows_of(4, 2))),)), (3, ((2, (0, 1, 2, 1, 1, 2, 2, 2, 2)),))):
            tables = list(held_operations(book))
            search, many = Search(book[0], book_tables(book)), 1
            while search.lots and many < 6 and not search.is_done:
                for lot, bits in search.lots.items():
                    rows = [row for at, row in enumerate(search.rows) if lot >> at & 1]
                    self.assertEqual((len(rows), bin(lot).count("1")), (many, many))
                    self.assertIn(tuple(range(book[0])), rows)
                    made = {tuple(table[values] for values in zip(*lot_of)) for places, table in tables
                            for lot_of in itertools.product(rows, repeat=places)}
                    told = {row for at, row in enumerate(search.rows) if bits >> at & 1}
                    self.assertEqual(told, made)
                    self.assertLessEqual(set(rows[1:]), made)
                    sizes.append(len(rows))
                search.go_on()
                many += 1
        self.assertIn(3, sizes)

    def test_most_lines(self):
        self.assertIsNone(fewest_lines((2, (XOR,)), 0))
        self.assertEqual(fewest_lines((2, (XOR,)), 1), 1)
        self.assertIsNone(fewest_lines((2, (AND,)), 9))
        self.assertIsNone(fewest_lines((2, ()), 3))
        for value in ANYTHING:
            if type(value) is not int or value < 0:
                self.fails_size("most", fewest_lines, (2, (XOR,)), value)
        self.assertEqual(fewest_lines(most=4, book=in_lists(turn_book(3))), 4)
        self.assertEqual(turn_book(values=3), turn_book(3))

    def test_the_limits(self):
        """Two operations of two places on three values, none told, to five lines."""
        operations = (LEAST, (2, tuple((row[0] + 2 * row[1]) % 3 for row in rows_of(3, 2))))
        self.assertEqual(fewest_lines((3, operations), 5), brute_fewest((3, operations), 2))
        wide = (2, tuple(0 if row[0] == row[1] else max(row) for row in rows_of(3, 2)))
        self.assertEqual(fewest_lines((3, (wide, LEAST)), 5), 1)


class WordsTest(Fails, unittest.TestCase):
    def look(self, book):
        paper = word_paper(book)
        self.assertFalse(has_lists(paper))
        self.assertTrue(is_right(book, paper))
        self.assertIs(word_holds(book, paper), True)
        many = shortest(book)
        self.assertEqual(paper[0], "never" if many is None else "word")
        self.assertEqual(paper[0] == "never", court_paper(book)[0] == "arrows")
        if many is not None:
            self.assertEqual(len(paper[1]), many)
            self.assertEqual(fewest_lines(book, many), many)
        return paper

    def test_papers(self):
        self.assertEqual(word_paper(turn_book(3))[:2], ("word", (1, 0, 0, 1)))
        for size in (2, 3):
            operations = all_operations(size, 1)
            for lot in itertools.chain([()], itertools.product(operations), itertools.product(operations[::size - 1], repeat=2)):
                self.look((size, lot))
        dice = random.Random(4)
        for size in (4, 5):
            for book in one_place_books(size, dice, 50):
                self.look(book)
        self.look(turn_book(8))

    def test_words_that_lead_elsewhere(self):
        book = turn_book(3)
        _, word, heights = word_paper(book)
        for other in itertools.product(range(2), repeat=4):
            row = (0, 1, 2)
            for letter in other:
                row = tuple(book[1][letter][1][value] for value in row)
            self.assertIs(word_holds(book, ("word", other, heights)), len(set(row)) == 1)
        self.assertIs(word_holds(book, ("word", word + (0,), heights)), False)
        higher = heights[:2] + (((0, 1, 2), 5),) + heights[3:]
        self.assertEqual([row[0] for row in heights][2], (0, 1, 2))
        self.assertIs(word_holds(book, ("word", word + (0,), higher)), False)
        self.assertIs(word_holds(book, ("word", (0,) + word, higher)), False)
        self.assertIs(word_holds(book, ("never", heights)), False)
        # Letters that are constant are none.
        book = (2, ((1, (1, 1)), (1, (0, 1))))
        heights = word_paper(book)[1]
        self.assertIs(word_holds(book, ("word", (0,), (((0,), 0), ((0, 1), 1), ((1,), 0)))), False)
        self.assertEqual(heights, (((0,), 0), ((0, 1), 4), ((1,), 0)))

    def test_any_heights(self):
        book = (3, (TURN, (1, (0, 1, 0))))
        lots = all_lots(3)
        seen = 0
        for numbers in itertools.product(range(5), repeat=7):
            told = tuple(zip(lots, numbers))
            for paper in (("word", (1, 0, 0, 1), told),):
                self.assertIs(word_holds(book, paper), is_right(book, paper))
                seen += is_right(book, paper)
            if numbers[0] == 1:
                break
        self.assertGreater(seen, 0)
        never = (3, (TURN, (1, (0, 2, 1))))
        for numbers in itertools.product((1, 2, 7, 8, 9), repeat=4):
            told = tuple((lot, 0 if len(lot) == 1 else numbers[[one for one in lots if len(one) > 1].index(lot)]) for lot in lots)
            self.assertIs(word_holds(never, ("never", told)), is_right(never, ("never", told)))

    def test_changed_papers(self):
        for book in (turn_book(3), (2, (NOT,)), (2, ((1, (0, 0)), KEEP)), (2, ()), (3, ((1, (0, 0, 1)), (1, (0, 0, 0))))):
            paper = word_paper(book)
            for value in itertools.chain(changed(paper), ANYTHING, (paper[:1], paper + ((),), ("word",), ("never",))):
                told = word_holds(book, value)
                self.assertIs(type(told), bool)
                self.assertEqual(told, is_right(book, value), value)

    def test_refused(self):
        for operations in ((AND,), (NOT, OR), ((2, (0, 0, 1, 1)),), ((3, (0,) * 8), NOT), ((2, (1, 1, 1, 1)),)):
            self.fails_at(Refused, -1, word_paper, (2, operations))
            self.fails_at(Refused, -1, word_holds, (2, operations), None)
        self.same_in_lists(word_paper, turn_book(3))
        self.assertIs(word_holds(value=word_paper(turn_book(4)), book=in_lists(turn_book(4))), True)
        self.assertEqual(answer(3, MOST, (1, 2)), 2)


if __name__ == "__main__":
    unittest.main()
