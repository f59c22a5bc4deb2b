"""[24], [25], [26]: folding that keeps several values; whether it opens and keeps rightly."""

import itertools
import random
import unittest

from foldsall.court import court_paper
from foldsall.errors import InvalidBook
from foldsall.folding import kept_sets
from foldsall.programs import is_straight, need_program
from foldsall.runs import shown_values
from foldsall.severals import right_holds, right_paper, several_holds, several_paper, sizes_book, wrong_sizes
from tests.helpers import (AND, ANYTHING, KEEP, LEAST, MOST, NOT, OR, TURN, XOR, Fails, Writer, all_operations, answer,
                           changed, has_lists, in_lists, no_rows_of)
from tests.test_arrows import small_books
from tests.test_court import end_row


def folded(size, many, values):
    return tuple(range(size)) if len(values) > many else tuple(sorted(values))


def led(book, many, sights):
    """What one operation leads some sights to."""
    for operation in book[1]:
        for row in itertools.product(sights, repeat=operation[0]):
            kept = {answer(book[0], operation, values) for values in itertools.product(*[sight[0] for sight in row])}
            yield (folded(book[0], many, kept),
                   tuple(answer(book[0], operation, values) for values in zip(*[sight[1] for sight in row]))
                   if row[0][1] else ())


def begin(book, lot):
    return {(tuple(range(book[0])), lot)} | {((value,), (value,) * len(lot)) for value in range(book[0])}


def sights_of(book, many, lot):
    sights = begin(book, lot)
    while True:
        more = sights | set(led(book, many, sorted(sights)))
        if more == sights:
            return sights
        sights = more


def are_sights(book, many, lot, told):
    """By the words of the document: any lot of sights from which nothing new is led to."""
    if not isinstance(told, tuple) or has_lists(told):
        return False
    for sight in told:
        if not isinstance(sight, tuple) or len(sight) != 2 or not all(isinstance(part, tuple) for part in sight):
            return False
        kept, row = sight
        if not all(type(value) is int and 0 <= value < book[0] for value in kept + row) or len(row) != len(lot):
            return False
        if list(kept) != sorted(set(kept)) or not (1 <= len(kept) <= many or len(kept) == book[0]):
            return False
    if list(told) != sorted(set(told)):
        return False
    return begin(book, lot) <= set(told) and set(led(book, many, told)) <= set(told)


def story_of(book, many, program):
    """What the end of a story keeps, and its values in all runs; None if it is no story."""
    from foldsall.errors import InvalidProgram
    try:
        need_program(book, program)
    except InvalidProgram:
        return None
    if program[0] != (tuple(range(book[0])),) or len(program[2]) != 1 or not is_straight(book, program):
        return None
    return kept_sets(book, program, many)[program[2][0]], set(end_row(book, program))


def is_lot(book, lot):
    return isinstance(lot, tuple) and all(type(value) is int and 0 <= value < book[0] for value in lot) and list(
        lot) == sorted(set(lot))


def is_right_sight(book, many, kept, row):
    return len(set(row)) > many if len(kept) == book[0] else set(kept) == set(row)


def is_several(book, many, paper):
    if not isinstance(paper, tuple) or not paper:
        return False
    if paper[0] == "few" and len(paper) == 2:
        told = story_of(book, many, paper[1])
        return told is not None and len(told[0]) == book[0] and len(told[1]) <= many
    if paper[0] != "apart" or len(paper) != 3 or not is_lot(book, paper[1]) or len(paper[1]) != many + 1:
        return False
    return are_sights(book, many, paper[1], paper[2]) and all(
        len(kept) < book[0] or len(set(row)) == len(row) for kept, row in paper[2])


def is_rightly(book, many, paper):
    if not isinstance(paper, tuple) or not paper:
        return False
    if paper[0] == "wrong" and len(paper) == 2:
        told = story_of(book, many, paper[1])
        return told is not None and not is_right_sight(book, many, told[0], tuple(told[1]))
    if paper[0] != "right" or len(paper) != 3 or not is_lot(book, paper[1]):
        return False
    return are_sights(book, many, paper[1], paper[2]) and all(
        is_right_sight(book, many, kept, row) for kept, row in paper[2])


def books():
    yield from list(small_books())[::2]
    for size in (3, 4):
        dice = random.Random(size)
        operations = all_operations(size, 1)
        for _ in range(40):
            yield (size, tuple(dice.choice(operations) for _ in range(dice.randrange(3))))
    dice = random.Random(5)
    for _ in range(40):
        yield (3, tuple((2, tuple(dice.choice((0, 0, 1, 2)) for _ in range(9))) for _ in range(dice.randrange(1, 3))))
    yield (2, (AND, OR, (3, (0, 0, 0, 1, 0, 1, 1, 1))))


class PapersTest(Fails, unittest.TestCase):
    def test_told_papers(self):
        book = sizes_book(4, [2])
        self.assertEqual((book, wrong_sizes(book), several_paper(book, 2)[0], several_paper(book, 1)[0]),
                         ((4, ((1, (0, 1, 1, 2)),)), (2,), "few", "apart"))
        self.assertEqual(right_paper((2, (AND,)), 1)[0], "right")

    def test_papers(self):
        words = {}
        for book in books():
            for many in range(1, book[0]):
                sights = sights_of(book, many, tuple(range(book[0])))
                paper = several_paper(book, many)
                few = any(len(kept) == book[0] and len(set(row)) <= many for kept, row in sights)
                self.assertEqual(paper[0], "few" if few else "apart")
                self.assertTrue(is_several(book, many, paper), (book, many, paper))
                self.assertIs(several_holds(book, many, paper), True)
                if many == 1:
                    self.assertEqual(paper[0] == "few", court_paper(book)[0] == "story")
                right = right_paper(book, many)
                wrong = not all(is_right_sight(book, many, kept, row) for kept, row in sights)
                self.assertEqual(right[0], "wrong" if wrong else "right")
                self.assertTrue(is_rightly(book, many, right), (book, many, right))
                self.assertIs(right_holds(book, many, right), True)
                self.assertFalse(has_lists((paper, right)))
                self.assertFalse(few and not wrong)
                for word in (paper[0], right[0]):
                    words[word] = words.get(word, 0) + 1
            self.assertEqual(wrong_sizes(book),
                             tuple(many for many in range(1, book[0]) if several_paper(book, many)[0] == "few"))
        self.assertTrue(all(many > 30 for many in words.values()))

    def test_all_programs(self):
        """What papers say of all programs whose inputs have all values."""
        for at, book in enumerate(itertools.islice(books(), 0, None, 3)):
            rows = Writer(book, at, True).program(2, 6)[1]
            program = ((tuple(range(book[0])),) * 2, rows, ())
            shown = shown_values(book, program)
            for many in range(1, book[0]):
                several, right = several_paper(book, many), right_paper(book, many)
                for number, kept in enumerate(kept_sets(book, program, many)):
                    if several[0] == "apart":
                        self.assertFalse(len(kept) == book[0] and len(shown[number]) <= many)
                        if len(kept) == book[0]:
                            runs = [(tuple([value]),) * 2 for value in several[1]]
                            values = {shown_values(book, (lists,) + program[1:])[number] for lists in runs}
                            self.assertEqual(len(values), many + 1)
                    if right[0] == "right":
                        self.assertEqual(kept, shown[number] if len(shown[number]) <= many else tuple(range(book[0])))

    def test_more_sights_than_come(self):
        book, many = (3, (LEAST,)), 2
        lot = several_paper(book, many)[1]
        rows = list(itertools.product(range(3), repeat=3))
        kinds = [kept for length in (1, 2, 3) for kept in itertools.combinations(range(3), length)]
        seen = 0
        dice = random.Random(1)
        for _ in range(150):
            extra = {(dice.choice(kinds), dice.choice(rows)) for _ in range(2)}
            sights = begin(book, lot) | extra
            while True:
                more = sights | set(led(book, many, sorted(sights)))
                if more == sights:
                    break
                sights = more
            for word, judge, right in (("apart", several_holds, is_several), ("right", right_holds, is_rightly)):
                for paper in ((word, lot, tuple(sorted(sights))), (word, lot, tuple(sorted(sights - extra)))):
                    self.assertIs(judge(book, many, paper), right(book, many, paper))
                    seen += right(book, many, paper)
        self.assertGreater(seen, 20)

    def test_kept_sets_of_no_sight(self):
        """What is kept is a lot of one to many values, or all values; nothing else, even where nothing is led to it."""
        for many, size in ((1, 3), (2, 3), (1, 4), (2, 4), (3, 4)):
            book, lot = (size, ()), tuple(range(many + 1))
            for length in range(size + 1):
                kept = tuple(range(length))
                sights = tuple(sorted(begin(book, lot) | {(kept, lot)}))
                right = 1 <= length <= many or length == size
                self.assertIs(several_holds(book, many, ("apart", lot, sights)), right)
                whole = tuple(range(size))
                sights = tuple(sorted(begin(book, whole) | {(kept, tuple(value % max(1, length) for value in whole))}))
                self.assertIs(right_holds(book, many, ("right", whole, sights)), right)

    def test_any_stories(self):
        book = (2, (XOR, NOT))
        whole = ((0, 1),)
        for program in ((whole, (("of", 0, (0, 0)),), (1,)), (whole, (("of", 1, (0,)), ("of", 0, (0, 1))), (2,)),
                        (whole, (("told", 1), ("of", 0, (0, 0)), ("of", 1, (2,))), (3,))):
            self.assertIs(several_holds(book, 1, ("few", program)), True)
            self.assertIs(right_holds(book, 1, ("wrong", program)), True)
        for program in ((whole, (), (0,)), (whole, (("told", 1),), (1,)), (whole, (("of", 1, (0,)),), (1,)),
                        (((0,),), (("of", 0, (0, 0)),), (1,)), (whole * 2, (("of", 0, (0, 0)),), (2,)),
                        (whole, (("of", 0, (0, 0)),), (1, 1)), (whole, (("of", 0, (0, 0)),), ()),
                        (whole, (("fork", None, (), (), ()), ("of", 0, (0, 0))), (1,))):
            self.assertIs(several_holds(book, 1, ("few", program)), False)
            self.assertIs(right_holds(book, 1, ("wrong", program)), False)

    def test_any_lots(self):
        for book, many in (((2, (AND,)), 1), ((3, (LEAST,)), 1), ((3, (LEAST, TURN)), 2), ((4, ((1, (0, 1, 1, 2)),)), 1)):
            for length in range(book[0] + 1):
                for lot in itertools.combinations(range(book[0]), length):
                    sights = tuple(sorted(sights_of(book, many, lot)))
                    self.assertIs(several_holds(book, many, ("apart", lot, sights)),
                                  is_several(book, many, ("apart", lot, sights)))
                    self.assertIs(right_holds(book, many, ("right", lot, sights)),
                                  is_rightly(book, many, ("right", lot, sights)))
        self.assertIs(right_holds((2, (AND,)), 1, ("right", (), tuple(sorted(sights_of((2, (AND,)), 1, ()))))), False)

    def test_changed_papers(self):
        for book, many in (((2, (AND,)), 1), ((2, (NOT, XOR)), 1), ((3, ((1, (0, 0, 1)),)), 1), ((3, ((1, (0, 0, 1)),)), 2)):
            for judge, right, paper in ((several_holds, is_several, several_paper(book, many)),
                                        (right_holds, is_rightly, right_paper(book, many))):
                for value in itertools.chain(changed(paper), ANYTHING, (paper[:1], paper + ((),), paper[0])):
                    told = judge(book, many, value)
                    self.assertIs(type(told), bool)
                    self.assertEqual(told, right(book, many, value), value)

    def test_wrong_inputs(self):
        for function in (several_paper, right_paper, lambda *told: several_holds(*told, None),
                         lambda *told: right_holds(*told, None)):
            for value in no_rows_of(2):
                self.fails_at(InvalidBook, -1, function, value, None)
            for value in ANYTHING + (3, 0, -1):
                if type(value) is not int or not 1 <= value <= 2:
                    self.fails_size("many", function, (3, (TURN,)), value)
            self.fails_size("many", function, (2, (AND,)), 2)
        for value in no_rows_of(2):
            self.fails_at(InvalidBook, -1, wrong_sizes, value)
        self.same_in_lists(several_paper, (3, (LEAST, MOST)), 2)
        self.same_in_lists(right_paper, (3, (LEAST,)), 1)
        self.same_in_lists(wrong_sizes, (3, (LEAST,)))
        book = (2, (AND, KEEP))
        self.assertIs(several_holds(value=several_paper(book, 1), many=1, book=in_lists(book)), True)
        self.assertIs(right_holds(value=right_paper(book, 1), many=1, book=in_lists(book)), True)


class SizesTest(Fails, unittest.TestCase):
    def test_wrong_sizes_are_these(self):
        for values in range(2, 7):
            for length in range(values - 1):
                for sizes in itertools.combinations(range(1, values - 1), length):
                    book = sizes_book(values, sizes)
                    self.assertEqual(len(book[1]), len(sizes))
                    for size, (places, answers) in zip(sizes, book[1]):
                        self.assertEqual((places, answers), (1, tuple(
                            value if value < size else size - 1 if value == size else size for value in range(values))))
                    if values < 6:
                        self.assertEqual(wrong_sizes(book), sizes)
        self.assertEqual(sizes_book(8, [1, 6]), (8, ((1, (0, 0, 1, 1, 1, 1, 1, 1)), (1, (0, 1, 2, 3, 4, 5, 5, 6)))))
        self.same_in_lists(sizes_book, 6, (1, 3, 4))

    def test_wrong_inputs(self):
        for value in ANYTHING + (9, 1):
            if type(value) is not int or not 2 <= value <= 8:
                self.fails_size("values", sizes_book, value, None)
        for value in ANYTHING + ((0,), (4,), (1, 1), (2, 1), (1, True), (True,), [1, 2, 2], (1, 4), "12", (-1,), (1, None)):
            if value not in ((), [], (1, 2, 3)):
                self.fails_size("sizes", sizes_book, 5, value)
        self.fails_size("sizes", sizes_book, 2, (1,))
        self.assertEqual(sizes_book(2, ()), (2, ()))
        self.assertEqual(sizes_book(5, [1, 2, 3])[0], 5)


if __name__ == "__main__":
    unittest.main()
