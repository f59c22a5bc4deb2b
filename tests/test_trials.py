"""[37]: runs that are enough for books of yes and no, and how many answers are of a kind."""

import functools
import itertools
import random
import unittest

from foldsall.errors import InvalidBook, InvalidKind, InvalidRuns, Refused
from foldsall.trials import fewest_trials, kind_count, rising_answers, trials_hold, trials_paper
from foldsall.twos import has_kind
from tests.helpers import (AND, ANYTHING, KEEP, NOT, OR, SAME, XOR, Fails, changed, has_lists, in_lists, no_rows_of, no_sequences,
                           rows_of)
from tests.test_twos import KINDS, MANY, all_of_kind, brute_kind, is_program, told_answers

BOOKS = tuple((2, book) for book in ((), (KEEP,), (NOT,), (AND,), (AND, KEEP), (OR,), (AND, OR), (MANY,), (XOR,), (SAME, NOT), (AND, NOT),
                                     ((2, (1, 1, 1, 0)),)))
ODD = (2, (XOR,))


@functools.lru_cache(maxsize=None)
def written(kind, many):
    """All answers of a kind that are not all alike."""
    return tuple(answers for answers in sorted(all_of_kind(kind, many)) if len(set(answers)) == 2)


def do_hide(answers, many, runs):
    rows = rows_of(2, many)
    return len({answers[rows.index(tuple(run))] for run in runs}) < 2


def are_enough(book, many, runs):
    return not any(do_hide(answers, many, runs) for answers in written(brute_kind(book), many))


def is_right(book, many, runs, value):
    """By the words of the document, of any value."""
    if value == ("enough",) and isinstance(value, tuple):
        return are_enough(book, many, runs)
    if not isinstance(value, tuple) or len(value) != 2 or value[0] != "hides" or not is_program(book, value[1]):
        return False
    answers = told_answers(book, value[1])
    return len(value[1][0]) == many and len(set(answers)) == 2 and do_hide(answers, many, runs)


def some_runs(many, seed):
    dice = random.Random(seed)
    rows = rows_of(2, many)
    yield ()
    yield tuple(rows)
    yield (rows[0], rows[-1])
    for _ in range(12):
        yield tuple(dice.choice(rows) for _ in range(dice.randrange(1, 8)))
    for row in rows[:4]:
        yield tuple(other for other in rows if other != row)


class TrialsTest(Fails, unittest.TestCase):
    def test_papers(self):
        enough = 0
        for book, many in itertools.product(BOOKS, (1, 2, 3)):
            for runs in some_runs(many, many):
                paper = trials_paper(book, many, runs)
                self.assertFalse(has_lists(paper))
                self.assertTrue(is_right(book, many, runs, paper), (book, runs, paper))
                self.assertIs(trials_hold(book, many, runs, paper), True)
                right = are_enough(book, many, runs)
                self.assertEqual(paper == ("enough",), right)
                self.assertIs(trials_hold(book, many, runs, ("enough",)), right)
                enough += right
        self.assertGreater(enough, 60)

    def test_all_lots_of_runs(self):
        """Of two inputs all lots of runs; so the fewest, too."""
        for book in BOOKS:
            for many in (1, 2):
                rows, found = rows_of(2, many), []
                for length in range(len(rows) + 1):
                    for runs in itertools.combinations(rows, length):
                        told = trials_paper(book, many, runs) == ("enough",)
                        self.assertEqual(told, are_enough(book, many, runs))
                        found += [length] if told else []
                self.assertEqual(fewest_trials(book, many), min(found))

    def test_fewest(self):
        for book in BOOKS:
            for many in (1, 2, 3, 4):
                kind = brute_kind(book)
                told = 2 ** many if kind == "all" else many + 1 if kind == "sums" else 2
                self.assertEqual(fewest_trials(book, many), told)
        for book in BOOKS[:4] + BOOKS[6:9]:
            rows = rows_of(2, 3)
            fewest = fewest_trials(book, 3)
            self.assertTrue(any(are_enough(book, 3, runs) for runs in itertools.combinations(rows, fewest)))
            self.assertFalse(any(are_enough(book, 3, runs) for runs in itertools.combinations(rows, fewest - 1)))

    def test_four_inputs(self):
        rows = rows_of(2, 4)
        for book in BOOKS:
            kind = brute_kind(book)
            fewest = {"sums": [(0,) * 4] + [tuple(int(at == one) for at in range(4)) for one in range(4)], "all": rows}
            fewest = fewest.get(kind, [rows[0], rows[-1]])
            self.assertEqual(trials_paper(book, 4, fewest), ("enough",))
            for at in range(len(fewest)):
                runs = fewest[:at] + fewest[at + 1:]
                paper = trials_paper(book, 4, runs)
                self.assertTrue(is_right(book, 4, runs, paper))
                self.assertIs(trials_hold(book, 4, runs, paper), True)
                self.assertIs(trials_hold(book, 4, runs, ("enough",)), False)

    def test_any_program(self):
        book = (2, (AND, NOT))
        same = (((0, 1),) * 2, (("of", 0, (0, 1)), ("of", 1, (2,)), ("told", 1)), (3,))
        for runs in ([(0, 0), (0, 1)], [(1, 1)], [(0, 0), (1, 1)], [], [(0, 1), (1, 0), (0, 1)]):
            for end in range(5):
                program = same[:2] + ((end,),)
                self.assertIs(trials_hold(book, 2, runs, ("hides", program)), is_right(book, 2, runs, ("hides", program)))
            for program in (same[:2] + ((3, 3),), same[:2] + ((),), (((0, 1),) * 3,) + same[1:],
                            (((0, 1), (0,)),) + same[1:], (((0, 1),), (("of", 1, (0,)),), (1,)),
                            (same[0], same[1] + (("fork", None, (), (), ()),), (3,))):
                self.assertIs(trials_hold(book, 2, runs, ("hides", program)), False)

    def test_changed_papers(self):
        for book, runs in ((ODD, ((0, 0), (1, 1))), ((2, (AND,)), ((0, 0), (0, 1))), ((2, (AND, NOT)), rows_of(2, 2)), ((2, ()), ()),
                           ((2, (AND, NOT)), ((0, 1), (1, 1), (1, 0)))):
            paper = trials_paper(book, 2, runs)
            for value in itertools.chain(changed(paper), ANYTHING, (paper[:1], ("hides",), ("hides", None), ("enough", ()))):
                told = trials_hold(book, 2, runs, value)
                self.assertIs(type(told), bool)
                self.assertEqual(told, is_right(book, 2, runs, value), value)

    def test_wrong_inputs(self):
        functions = (trials_paper, lambda *given: trials_hold(*given, None), lambda book, many, runs: fewest_trials(book, many))
        for function in functions:
            for value in no_rows_of(2):
                self.fails_at(InvalidBook, -1, function, value, None, None)
            self.fails_at(InvalidBook, 1, function, (2, (AND, (1, (0, 2)))), None, None)
            for size in range(3, 9):
                self.fails_at(Refused, -1, function, (size, ()), None, None)
            for value in ANYTHING + (0, 5):
                if type(value) is not int or not 1 <= value <= 4:
                    self.fails_size("many", function, ODD, value, None)
                    self.fails_size("many", rising_answers, value)
        for function in functions[:2]:
            for value in no_sequences():
                self.fails_at(InvalidRuns, -1, function, ODD, 2, value)
            for value in no_sequences() + [(), (0,), (0, 1, 0), (0, 2), (True, 0), [0, None], ((0,), 0), "01", (-1, 0)]:
                self.fails_at(InvalidRuns, 0, function, ODD, 2, (value, value))
                self.fails_at(InvalidRuns, 2, function, ODD, 2, [[0, 0], (0, 1), value])
        self.same_in_lists(trials_paper, ODD, 2, ((0, 0), (0, 0)))
        self.same_in_lists(fewest_trials, ODD, 3)
        self.assertIs(trials_hold(value=("enough",), runs=[[0, 0], [1, 0], [0, 1]], many=2, book=in_lists(ODD)), True)


class CountsTest(Fails, unittest.TestCase):
    def test_counts(self):
        for kind in KINDS:
            for places in (1, 2, 3):
                self.assertEqual(kind_count(kind, places), len(all_of_kind(kind, places)))
            if kind not in ("all", "rising"):
                self.assertEqual(kind_count(kind, 4), len(all_of_kind(kind, 4)))
        self.assertEqual([kind_count("rising", places) for places in range(1, 7)], [3, 6, 20, 168, 7581, 7828354])
        self.assertEqual([kind_count("all", places) for places in (4, 6)], [2 ** 16, 2 ** 64])
        self.assertEqual([kind_count(kind, 6) for kind in ("wires", "nots", "ands", "ors", "sums")], [8, 14, 65, 65, 128])

    def test_rising_answers(self):
        for many in (1, 2, 3):
            self.assertEqual(rising_answers(many), tuple(sorted(all_of_kind("rising", many))))
        told = rising_answers(4)
        self.assertEqual((len(told), list(told)), (168, sorted(set(told))))
        self.assertTrue(all(has_kind("rising", answers) and len(answers) == 16 for answers in told))
        self.assertFalse(has_lists(told))
        self.assertEqual(rising_answers(many=1), ((0, 0), (0, 1), (1, 1)))

    def test_two_places_more(self):
        """What the document tells of rising answers of two places more, by plain counting."""
        for places in (1, 2):
            rows = rising_answers(places)

            def lies(one, other):
                return all(a <= b for a, b in zip(one, other))

            many = sum(sum(lies(low, one) and lies(low, other) for low in rows)
                       * sum(lies(one, high) and lies(other, high) for high in rows) for one in rows for other in rows)
            self.assertEqual(kind_count("rising", places + 2), many)

    def test_wrong_inputs(self):
        for value in ANYTHING + ("Rising", "none", ["all"], ("all",)):
            self.fails(InvalidKind, {}, kind_count, value, None)
        for kind in KINDS:
            for value in ANYTHING + (0, 7):
                if type(value) is not int or not 1 <= value <= 6:
                    self.fails_size("places", kind_count, kind, value)
        self.assertEqual(kind_count(places=2, kind="ors"), 5)


if __name__ == "__main__":
    unittest.main()
