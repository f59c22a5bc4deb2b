"""[32], [33], [34], [73]: alike runs, runs that are enough, and what few values tell."""

import itertools
import random
import unittest

from foldsall.alikes import (alike_holds, alike_paper, alike_run, alike_runs, fewest_runs, runs_hold, runs_paper, same_inputs,
                             telling_holds, telling_paper, telling_parts)
from foldsall.arrows import are_arrows, sure_pairs
from foldsall.errors import InvalidBook, InvalidIndex, InvalidList, InvalidProgram, InvalidRuns, Refused
from foldsall.folding import kept_sets
from foldsall.programs import is_straight, need_program, register_count
from foldsall.runs import shown_values
from foldsall.spread import right_lists
from tests.helpers import (AND, ANYTHING, LEAST, MOST, NOT, OR, SAME, TURN, XOR, Fails, Writer, answer, changed, has_lists, in_lists,
                           no_rows_of, no_sequences, no_values)
from tests.test_missed import FORKED, LOOPED
from tests.test_spread import SUM, books, closed, is_exact, lists_of, lot_of

BOOK = (2, (SAME,))
LESS = (3, (LEAST,))


def alike(lists):
    """All runs in which inputs of one list have one value."""
    return [run for run in itertools.product(*lists)
            if all(run[one] == run[two] for one in range(len(run)) for two in range(len(run)) if lists[one] == lists[two])]


def values_in(book, program, run):
    known = list(run)
    for row in program[1]:
        known.append(row[1] if row[0] == "told" else answer(book[0], book[1][row[1]], [known[read] for read in row[2]]))
    return known


def is_end_program(book, value):
    try:
        return need_program(book, value) == value and is_straight(book, value) and len(value[2]) == 1
    except Exception:
        return False


def is_value(book, value):
    return type(value) is int and 0 <= value < book[0]


def are_closed_rows(book, starts, value, is_right=True):
    """Whether any value is an ascending closed lot of rows with these and the alike ones, and no operation lies."""
    many = len(starts[0]) if starts else None
    if not isinstance(value, tuple) or not all(isinstance(row, tuple) and row for row in value):
        return False
    if not all(is_value(book, one) for row in value for one in row) or list(value) != sorted(set(value)):
        return False
    many = len(value[0]) if many is None and value else many
    if not all(len(row) == many for row in value):
        return False
    if not set(value) >= set(starts) | {(one,) * many for one in range(book[0])}:
        return False
    return closed(book, value) == value and is_exact(book, value)


def is_alike_paper(book, lists, paper):
    """By the words of the document, of any value."""
    if not isinstance(paper, tuple) or has_lists(paper):
        return False
    if len(paper) == 2 and paper[0] == "enough":
        return (isinstance(paper[1], tuple) and len(paper[1]) == len(lists)
                and all(are_closed_rows(book, [values], rows) for values, rows in zip(lists, paper[1])))
    if len(paper) != 4 or paper[0] != "more" or not is_end_program(book, paper[1]) or not is_value(book, paper[3]):
        return False
    _, program, run, value = paper
    inputs = program[0]
    if not inputs or len(set(inputs)) != 1 or inputs[0] not in lists or not isinstance(run, tuple) or len(run) != len(inputs):
        return False
    if not all(type(one) is int and one in inputs[0] for one in run) or values_in(book, program, run)[program[2][0]] != value:
        return False
    return all(values_in(book, program, other)[program[2][0]] != value for other in alike(inputs))


def is_runs_paper(book, lists, runs, paper):
    """By the words of the document, of any value."""
    if not isinstance(paper, tuple) or has_lists(paper):
        return False
    rows = [tuple(run[at] for run in runs) for at in range(len(lists))]
    if len(paper) == 2 and paper[0] == "enough":
        if not isinstance(paper[1], tuple) or not all(isinstance(row, tuple) and len(row) == len(runs) for row in paper[1]):
            return False
        return all(set(row) == set(values) for row, values in zip(rows, lists)) and are_closed_rows(
            book, rows + [(0,) * len(runs)], paper[1])
    if len(paper) != 3 or paper[0] != "less" or not is_end_program(book, paper[1]) or not is_value(book, paper[2]):
        return False
    _, program, value = paper
    if program[0] != tuple(lists) or value not in kept_sets(book, program)[program[2][0]]:
        return False
    return all(values_in(book, program, run)[program[2][0]] != value for run in runs)


def sights_of(book, values, part):
    """The least lot of sights, going through all again and again."""
    found = {(part, values)} | {((value,) * len(part), (value,)) for value in range(book[0])}
    while True:
        more = set()
        for one in book[1]:
            for chosen in itertools.product(sorted(found), repeat=one[0]):
                row = tuple(answer(book[0], one, column) for column in zip(*[sight[0] for sight in chosen]))
                lot = {answer(book[0], one, column) for column in itertools.product(*[sight[1] for sight in chosen])}
                more.add((row, tuple(sorted(lot))))
        if more <= found:
            return tuple(sorted(found))
        found |= more


def hides(sight, kept):
    return len(set(sight[0])) <= kept < len(sight[1])


def is_telling_paper(book, values, part, kept, paper):
    """By the words of the document, of any value."""
    if not isinstance(paper, tuple) or len(paper) != 2 or has_lists(paper):
        return False
    if paper[0] == "tells":
        if not isinstance(paper[1], tuple):
            return False
        for sight in paper[1]:
            if not isinstance(sight, tuple) or len(sight) != 2 or not all(isinstance(half, tuple) for half in sight):
                return False
            if len(sight[0]) != len(part) or not sight[1] or not all(is_value(book, one) for half in sight for one in half):
                return False
            if list(sight[1]) != sorted(set(sight[1])) or hides(sight, kept):
                return False
        known = set(paper[1])
        if list(paper[1]) != sorted(known) or not set(paper[1]) >= {(part, values)} | {((one,) * len(part), (one,)) for one in range(book[0])}:
            return False
        for one in book[1]:
            for chosen in itertools.product(paper[1], repeat=one[0]):
                row = tuple(answer(book[0], one, column) for column in zip(*[sight[0] for sight in chosen]))
                lot = {answer(book[0], one, column) for column in itertools.product(*[sight[1] for sight in chosen])}
                if (row, tuple(sorted(lot))) not in known:
                    return False
        return True
    if paper[0] != "hides" or not is_end_program(book, paper[1]) or paper[1][0] != (values,):
        return False
    end = paper[1][2][0]
    shown = {values_in(book, paper[1], (one,))[end] for one in part}
    return len(shown) <= kept < len(kept_sets(book, paper[1])[end])


class AlikeRunsTest(Fails, unittest.TestCase):
    def test_runs(self):
        self.assertEqual(alike_runs([(0, 1), (0, 2), (0, 1)]), ((0, 0, 0), (0, 2, 0), (1, 0, 1), (1, 2, 1)))
        self.assertEqual(alike_runs(()), ((),))
        self.assertEqual(alike_runs([[5, 900]]), ((5,), (900,)))
        dice = random.Random(1)
        for _ in range(60):
            lists = tuple(dice.choice(((0, 1), (1,), (0, 2, 7), (3, 4))) for _ in range(dice.randrange(5)))
            self.assertEqual(alike_runs(lists), tuple(sorted(alike(lists))))
            self.assertFalse(has_lists(alike_runs(in_lists(lists))))

    def test_same_inputs(self):
        for seed in range(120):
            book = ((2, (AND, NOT)), LESS, (2, (XOR,)), (3, (TURN, LEAST)))[seed % 4]
            _, rows, ends = Writer(book, seed, True).program(4, 5)
            dice = random.Random(seed)
            lists = tuple(dice.choice(((0, 1), (1,), tuple(range(book[0])))) for _ in range(4))
            program = (lists, rows, ends)
            same = same_inputs(book, program)
            self.assertEqual(need_program(book, same), same)
            unlike = sorted(set(lists), key=lists.index)
            self.assertEqual(same[0], tuple(unlike))
            # Its registers have the kept sets of those that they were, and in its runs what alike runs have.
            names = [unlike.index(values) for values in lists] + [len(unlike) + at for at in range(len(rows))]
            self.assertEqual([kept_sets(book, same)[name] for name in names], list(kept_sets(book, program)))
            for run in alike(lists):
                short = tuple(run[lists.index(values)] for values in unlike)
                self.assertEqual([values_in(book, same, short)[name] for name in names], values_in(book, program, run))
            self.assertEqual(same[2], tuple(names[end] for end in ends))
            self.assertEqual(same_inputs(book, same), same)
            for number, value in itertools.product(range(register_count(book, program)), range(book[0])):
                runs = [run for run in sorted(alike(lists)) if values_in(book, program, run)[number] == value]
                self.assertEqual(alike_run(book, program, number, value), runs[0] if runs else None)

    def test_wrong_inputs(self):
        for value in no_sequences():
            self.fails_at(InvalidList, -1, alike_runs, value)
        for value in no_sequences() + [(), [], (1, 0), (0, 0), (True,), (0, None), (-1, 0), ("0",), ((0,),)]:
            self.fails_at(InvalidList, 0, alike_runs, (value, value))
            self.fails_at(InvalidList, 2, alike_runs, [(0,), (5, 8), value])
        self.same_in_lists(alike_runs, ((0, 1), (2,)))
        program = (((0, 1),) * 2, (("of", 0, (0, 1)),), (2,))
        for function in (same_inputs, lambda *given: alike_run(*given, None, None)):
            for value in no_rows_of(2):
                self.fails_at(InvalidBook, -1, function, value, None)
            for value in no_rows_of(3):
                self.fails_at(InvalidProgram, -1, function, (2, (AND, NOT)), value)
            for value in (FORKED, LOOPED):
                self.fails_at(Refused, "rows", function, (2, (AND, NOT)), value)
        for value in no_values(3):
            self.fails_at(InvalidIndex, 0, alike_run, BOOK, program, value, None)
        for value in no_values(2):
            self.fails_at(InvalidIndex, 1, alike_run, BOOK, program, 2, value)
        self.assertEqual(same_inputs(program=program, book=in_lists(BOOK)), (((0, 1),), (("of", 0, (0, 0)),), (1,)))
        self.assertEqual(alike_run(value=1, number=2, program=program, book=in_lists(BOOK)), (0, 0))


class AlikePapersTest(Fails, unittest.TestCase):
    def test_papers(self):
        kinds = {"enough": 0, "more": 0}
        for seed, book in enumerate(books()):
            dice = random.Random(seed)
            every = lists_of(book[0])
            for many in (0, 1, 2, 3):
                lists = dice.sample(every, many)
                most = max([book[0] ** len(values) for values in lists], default=1)
                paper = alike_paper(book, lists, most)
                kinds[paper[0]] += 1
                self.assertFalse(has_lists(paper))
                self.assertTrue(is_alike_paper(book, lists, paper), (book, lists, paper))
                self.assertIs(alike_holds(book, lists, paper), True)
                right = all(values in right_lists(book) for values in lists)
                self.assertEqual(paper[0] == "enough", right)
                if right:
                    self.assertEqual(paper[1], tuple(lot_of(book, values) for values in lists))
                else:
                    self.assertLessEqual(len(paper[1][0]), 3)
                for few in (1, book[0], 4):
                    less = alike_paper(book, lists, few)
                    if less == ("bound",):
                        self.assertTrue(any(len(lot_of(book, values)) > few for values in lists))
                    else:
                        self.assertTrue(is_alike_paper(book, lists, less))
        self.assertGreater(min(kinds.values()), 40)
        self.assertEqual(alike_paper(BOOK, (), 1), ("enough", ()))

    def test_three_places(self):
        book = (2, ((3, (0, 0, 0, 1, 0, 1, 1, 1)), (3, (0, 1, 1, 0, 1, 0, 0, 1))))
        paper = alike_paper(book, [(0, 1)], 4)
        self.assertTrue(is_alike_paper(book, [(0, 1)], paper))
        book = (2, ((3, (0, 0, 1, 1, 0, 1, 0, 0)),))
        self.assertTrue(is_alike_paper(book, [(0, 1)], alike_paper(book, [(0, 1)], 4)))

    def test_what_holds(self):
        """With right lists alike runs show all that is kept."""
        for seed, book in enumerate(books()):
            dice = random.Random(seed)
            right = right_lists(book)
            _, rows, ends = Writer(book, seed, True).program(4, 6)
            program = (tuple(dice.choice(right) for _ in range(4)), rows, ends)
            self.assertEqual(shown_values(book, same_inputs(book, program)), kept_sets(book, same_inputs(book, program)))
            shown = [set() for _ in range(register_count(book, program))]
            for run in alike_runs(program[0]):
                for lot, value in zip(shown, values_in(book, program, run)):
                    lot.add(value)
            self.assertEqual([tuple(sorted(lot)) for lot in shown], list(kept_sets(book, program)))

    def test_any_paper(self):
        program = (((0, 1),) * 4, (("of", 0, (0, 3)),), (4,))
        for lists in ([(0, 1)], [(0,), (0, 1)], [(0,)], []):
            for run in itertools.product((0, 1), repeat=4):
                for value in (0, 1, 2, False):
                    paper = ("more", program, run, value)
                    self.assertIs(alike_holds(BOOK, lists, paper), is_alike_paper(BOOK, lists, paper))
        for wrong in ((((0, 1), (0,)), (("of", 0, (0, 1)),), (2,)), ((), (("told", 0),), (0,)), (((0, 1),) * 2, (("of", 0, (0, 1)),), (2, 2)),
                      (((0, 1),) * 2, (("of", 0, (0, 1)), ("fork", None, (), (), ())), (2,))):
            for run in ((0, 0), (), (0, 1)):
                self.assertIs(alike_holds(BOOK, [(0, 1), (0,)], ("more", wrong, run, 0)), False)
        # Inputs of unlike lists, or one input, tell nothing more.
        for inputs, run in ((((0, 1), (0, 1), (0,)), (0, 1, 0)), (((0, 1),), (0,)), (((0,),), (0,))):
            for value in (0, 1):
                paper = ("more", (inputs, (("of", 0, (0, len(inputs) // 2)),), (len(inputs),)), run, value)
                self.assertIs(alike_holds(BOOK, [(0, 1), (0,)], paper), False)
        all_rows = tuple(itertools.product(range(3), repeat=2))
        self.assertIs(alike_holds((3, (TURN,)), [(0, 2), (1,)], ("enough", (all_rows, ((0,), (1,), (2,))))), True)
        self.assertIs(alike_holds((3, (TURN,)), [(1,), (0, 2)], ("enough", (all_rows, ((0,), (1,), (2,))))), False)

    def test_changed_papers(self):
        for book, lists in ((BOOK, [(0, 1)]), (LESS, [(0, 2), (1,)]), (LESS, []), (BOOK, [(1,), (0, 1)]), ((3, (SUM,)), [(0, 1)])):
            paper = alike_paper(book, lists, 9)
            for value in itertools.chain(changed(paper), ANYTHING, (("bound",), ("enough",), paper[:3])):
                told = alike_holds(book, lists, value)
                self.assertIs(type(told), bool)
                self.assertEqual(told, is_alike_paper(book, lists, value), value)

    def test_wrong_inputs(self):
        for function in (alike_paper, alike_holds):
            for value in no_rows_of(2):
                self.fails_at(InvalidBook, -1, function, value, None, None)
            for value in no_sequences():
                self.fails_at(InvalidList, -1, function, BOOK, value, None)
            for value in no_sequences() + [(), (1, 0), (2,), (0, 0), (True,), (0, 2)]:
                self.fails_at(InvalidList, 0, function, BOOK, (value, value), None)
                self.fails_at(InvalidList, 1, function, BOOK, [(0, 1), value], None)
            self.fails_at(InvalidList, 2, function, BOOK, [(0, 1), (0,), [0, 1], None], None)
        for value in ANYTHING + (0,):
            if type(value) is not int or value < 1:
                self.fails_size("most", alike_paper, BOOK, ((0, 1),), value)
        self.same_in_lists(alike_paper, BOOK, ((0, 1), (0,)), 4)
        self.assertIs(alike_holds(value=alike_paper(BOOK, [(0, 1)], 4), lists=[[0, 1]], book=in_lists(BOOK)), True)


def some_lists(book, dice):
    lists = tuple(dice.choice(lists_of(book[0])) for _ in range(dice.randrange(4)))
    every = list(itertools.product(*lists))
    return lists, every


class RunsTest(Fails, unittest.TestCase):
    def test_papers(self):
        kinds = {"enough": 0, "less": 0}
        for seed, book in enumerate(books()):
            dice = random.Random(seed)
            for _ in range(4):
                lists, every = some_lists(book, dice)
                for runs in (dice.sample(every, min(len(every), dice.randrange(1, 5))), alike(lists)[:4], every[:4]):
                    paper = runs_paper(book, lists, runs, book[0] ** len(runs))
                    kinds[paper[0]] += 1
                    self.assertFalse(has_lists(paper))
                    self.assertTrue(is_runs_paper(book, lists, runs, paper), (book, lists, runs, paper))
                    self.assertIs(runs_hold(book, lists, runs, paper), True)
                    rows = [tuple(run[at] for run in runs) for at in range(len(lists))]
                    least = closed(book, rows + [(value,) * len(runs) for value in range(book[0])])
                    right = all(set(row) == set(values) for row, values in zip(rows, lists)) and is_exact(book, least)
                    self.assertEqual(paper[0] == "enough", right)
                    if right:
                        self.assertEqual(paper[1], least)
                    for few in (1, 4, len(least) - 1, len(least)):
                        less = runs_paper(book, lists, runs, max(few, 1))
                        if less == ("bound",):
                            self.assertGreater(len(least), few)
                        else:
                            self.assertTrue(is_runs_paper(book, lists, runs, less))
        self.assertGreater(min(kinds.values()), 60)
        self.assertEqual(runs_paper(BOOK, (), [()], 2), ("enough", ((0,), (1,))))

    def test_fewest(self):
        told_kinds = {}
        for seed, book in enumerate(books()):
            dice = random.Random(seed)
            for _ in range(3):
                lists, every = some_lists(book, dice)
                if len(every) > 6 or (book[0] > 2 and len(every) > 4):
                    continue
                told = fewest_runs(book, lists, book[0] ** len(every))
                told_kinds[told[0]] = told_kinds.get(told[0], 0) + 1
                wanted = ("none",)
                for runs in (runs for many in range(1, len(every) + 1) for runs in itertools.combinations(every, many)):
                    rows = [tuple(run[at] for run in runs) for at in range(len(lists))]
                    if all(set(row) == set(values) for row, values in zip(rows, lists)) and is_exact(
                            book, closed(book, rows + [(value,) * len(runs) for value in range(book[0])])):
                        wanted = ("fewest", runs)
                        break
                self.assertEqual(told, wanted)
                self.assertFalse(has_lists(told))
                few = fewest_runs(book, lists, 1)
                self.assertIn(few, (told, ("bound",)))
        self.assertGreater(min(told_kinds["fewest"], told_kinds["none"]), 20)
        self.assertEqual(fewest_runs(BOOK, (), 2), ("fewest", ((),)))
        self.assertEqual(fewest_runs(BOOK, [(0, 1)], 1), ("bound",))

    def test_what_holds(self):
        for seed, book in enumerate(books()):
            dice = random.Random(seed)
            lists, every = some_lists(book, dice)
            if len(every) > 6:
                continue
            told = fewest_runs(book, lists, 729)
            if told[0] == "fewest":
                _, rows, ends = Writer(book, seed, True).program(len(lists), 6)
                program = (lists, rows, ends)
                shown = [tuple(sorted(set(column))) for column in zip(*[values_in(book, program, run) for run in told[1]])]
                self.assertEqual(shown, list(kept_sets(book, program)))

    def test_changed_papers(self):
        for book, lists, runs in ((BOOK, ((0, 1),), ((0,),)), (LESS, ((0, 2), (0, 2)), ((0, 0), (2, 2))), (BOOK, ((0, 1),), ((0,), (1,))),
                                  ((3, (SUM,)), ((0, 1), (2,)), ((1, 2), (0, 2))), (BOOK, (), ((),)), (LESS, ((1,),), ((1,),))):
            paper = runs_paper(book, lists, runs, 27)
            for value in itertools.chain(changed(paper), ANYTHING, (("bound",), ("enough",), paper[:2])):
                told = runs_hold(book, lists, runs, value)
                self.assertIs(type(told), bool)
                self.assertEqual(told, is_runs_paper(book, lists, runs, value), value)
        # Rows that are closed, but an input's lacks a value of its list.
        self.assertIs(runs_hold(BOOK, [(0, 1)], [(0,)], ("enough", ((0,), (1,)))), False)
        self.assertIs(runs_hold(BOOK, [(0,)], [(0,)], ("enough", ((0,), (1,)))), True)
        longer = (((0, 1),), (("of", 0, (0, 0)), ("of", 0, (1, 1))), (2,))
        for end, value, runs in itertools.product(range(3), (0, 1, 2, True), (((0,),), ((1,), (0,)))):
            paper = ("less", longer[:2] + ((end,),), value)
            self.assertIs(runs_hold(BOOK, [(0, 1)], runs, paper), is_runs_paper(BOOK, [(0, 1)], runs, paper))
            self.assertIs(runs_hold(BOOK, [(0, 1), (0, 1)], ((0, 1),), paper), False)

    def test_wrong_inputs(self):
        functions = (runs_paper, lambda *given: runs_hold(*given), lambda book, lists, runs, most: fewest_runs(book, lists, most))
        for function in functions:
            for value in no_rows_of(2):
                self.fails_at(InvalidBook, -1, function, value, None, None, None)
            for value in no_sequences():
                self.fails_at(InvalidList, -1, function, BOOK, value, None, None)
            for value in no_sequences() + [(), (1, 0), (2,), (0, 0), (True,)]:
                self.fails_at(InvalidList, 0, function, BOOK, (value, value), None, None)
                self.fails_at(InvalidList, 2, function, BOOK, [(0, 1), (0, 1), value], None, None)
        lists = ((0, 1), (1,))
        for function in functions[:2]:
            for value in no_sequences() + [(), []]:
                self.fails_at(InvalidRuns, -1, function, BOOK, lists, value, None)
            for value in no_sequences() + [(), (0,), (0, 0), (2, 1), (0, 1, 1), (False, 1), (0, True), ((0,), 1)]:
                self.fails_at(InvalidRuns, 0, function, BOOK, lists, (value, value), None)
                self.fails_at(InvalidRuns, 1, function, BOOK, lists, [[1, 1], value], None)
            self.fails_at(InvalidRuns, 1, function, BOOK, lists, ((1, 1), [1, 1], None), None)
            self.fails_at(InvalidRuns, 1, function, BOOK, (), ((), ()), None)
        for value in ANYTHING + (0,):
            if type(value) is not int or value < 1:
                self.fails_size("most", runs_paper, BOOK, lists, ((0, 1),), value)
                self.fails_size("most", fewest_runs, BOOK, lists, value)
        self.same_in_lists(runs_paper, BOOK, lists, ((0, 1), (1, 1)), 4)
        self.same_in_lists(fewest_runs, BOOK, lists, 4)
        paper = runs_paper(BOOK, lists, ((0, 1), (1, 1)), 4)
        self.assertIs(runs_hold(value=paper, runs=[[0, 1], [1, 1]], lists=in_lists(lists), book=in_lists(BOOK)), True)

    def test_the_limits(self):
        both, lists = (3, (LEAST, MOST)), ((0, 1, 2), (0, 2))
        for book in (both, (3, (SUM, LEAST)), (3, (SUM,)), (3, (TURN, LEAST))):
            runs = list(itertools.product(*lists))[:4]
            paper = runs_paper(book, lists, runs, 81)
            self.assertIs(runs_hold(book, lists, runs, paper), True)
            self.assertIn(fewest_runs(book, lists, 729)[0], ("fewest", "none"))
            self.assertIn(fewest_runs((2, (AND, OR)), ((0, 1), (0, 1), (1,), (0,)), 64)[0], ("fewest", "none"))


class TellingTest(Fails, unittest.TestCase):
    def cases(self):
        for seed, book in enumerate(books()):
            dice = random.Random(seed)
            for _ in range(4):
                values = dice.choice(lists_of(book[0]))
                parts = [part for part in lists_of(book[0]) if set(part) <= set(values)]
                yield book, values, parts, dice.choice(parts), dice.choice((1, 1, 2, 3))

    def test_papers(self):
        kinds = {"tells": 0, "hides": 0}
        for book, values, parts, part, kept in self.cases():
            sights = sights_of(book, values, part)
            paper = telling_paper(book, values, part, kept, book[0] ** len(part) * 2 ** book[0])
            kinds[paper[0]] += 1
            self.assertFalse(has_lists(paper))
            self.assertTrue(is_telling_paper(book, values, part, kept, paper), (book, values, part, kept, paper))
            self.assertIs(telling_holds(book, values, part, kept, paper), True)
            self.assertEqual(paper[0] == "tells", not any(hides(sight, kept) for sight in sights))
            if paper[0] == "tells":
                self.assertEqual(paper[1], sights)
            self.assertIs(telling_holds(book, values, part, kept, ("tells", sights)), paper[0] == "tells")
            for few in (1, 4, len(sights) - 1, len(sights)):
                less = telling_paper(book, values, part, kept, max(few, 1))
                if less == ("bound",):
                    self.assertGreater(len(sights), few)
                else:
                    self.assertTrue(is_telling_paper(book, values, part, kept, less))
        self.assertGreater(min(kinds.values()), 40)

    def test_parts(self):
        several = 0
        for book, values, parts, _, kept in self.cases():
            telling = [part for part in parts if not any(hides(sight, kept) for sight in sights_of(book, values, part))]
            for part in parts:
                # Greater parts tell what lesser ones do.
                if any(set(other) <= set(part) for other in telling):
                    self.assertIn(part, telling)
            least = [part for part in telling if not any(set(other) < set(part) for other in telling)]
            told = telling_parts(book, values, kept, 8 * 27)
            self.assertEqual(told, ("least", tuple(sorted(least))))
            self.assertFalse(has_lists(told))
            several += len(least) > 1
            few = telling_parts(book, values, kept, 1)
            self.assertIn(few, (told, ("bound",)))
        self.assertGreater(several, 20)
        self.assertEqual(telling_parts(BOOK, (0, 1), 1, 1), ("bound",))

    def test_arrows(self):
        """With one value kept an arrow's two ends tell all constants for the list of all values."""
        many = 0
        for book in books():
            for pair in sure_pairs(book):
                part = tuple(sorted(pair))
                self.assertEqual(telling_paper(book, tuple(range(book[0])), part, 1, 8 * 9)[0], "tells")
                many += 1
        self.assertGreater(many, 30)
        self.assertTrue(are_arrows(LESS, ((0, 1), (0, 2))))
        self.assertEqual(telling_parts(LESS, (0, 1, 2), 1, 216), ("least", ((0, 1), (0, 2))))

    def test_changed_papers(self):
        for book, values, part, kept in ((BOOK, (0, 1), (0,), 1), ((2, (AND,)), (0, 1), (0, 1), 1), (LESS, (0, 1, 2), (0, 2), 1),
                                         ((3, (SUM,)), (0, 1, 2), (0, 1), 2), (BOOK, (1,), (1,), 1), ((2, (OR,)), (0, 1), (1,), 1)):
            paper = telling_paper(book, values, part, kept, 99)
            for value in itertools.chain(changed(paper), ANYTHING, (("bound",), ("tells",), ("tells", ()), ("hides", None))):
                told = telling_holds(book, values, part, kept, value)
                self.assertIs(type(told), bool)
                self.assertEqual(told, is_telling_paper(book, values, part, kept, value), value)
        # Any closed lot: also one with more than comes of the list.
        wider = tuple(((one, two), lot) for one in (0, 1) for two in (0, 1) for lot in ((0,), (0, 1), (1,))
                      if one != two or lot == (one,))
        for book in ((2, (NOT,)), (2, (AND,)), (2, ())):
            paper = ("tells", tuple(sorted(wider)))
            self.assertIs(telling_holds(book, (0, 1), (0, 1), 1, paper), is_telling_paper(book, (0, 1), (0, 1), 1, paper))
        self.assertIs(telling_holds((2, (NOT,)), (0, 1), (0, 1), 1, ("tells", tuple(sorted(wider)))), True)

    def test_any_program(self):
        program = (((0, 1),), (("of", 0, (0, 0)), ("of", 0, (0, 1)), ("told", 1)), ())
        for end, part, kept in itertools.product(range(4), ((0,), (1,), (0, 1)), (1, 2)):
            paper = ("hides", program[:2] + ((end,),))
            self.assertIs(telling_holds(BOOK, (0, 1), part, kept, paper), is_telling_paper(BOOK, (0, 1), part, kept, paper))
        for wrong in (program[:2] + ((1, 1),), (((0, 1),) * 2, (("of", 0, (0, 1)),), (2,)), (((0,),),) + program[1:2] + ((1,),)):
            self.assertIs(telling_holds(BOOK, (0, 1), (0,), 1, ("hides", wrong)), False)

    def test_wrong_inputs(self):
        functions = (telling_paper, lambda book, values, part, kept, most: telling_holds(book, values, part, kept, None),
                     lambda book, values, part, kept, most: telling_parts(book, values, kept, most))
        for function in functions:
            for value in no_rows_of(2):
                self.fails_at(InvalidBook, -1, function, value, None, None, None, None)
            for value in no_sequences() + [(), (1, 0), (2,), (0, 0), (True,), (0, 2)]:
                self.fails_at(InvalidList, -1, function, BOOK, value, None, None, None)
            for value in ANYTHING + (0,):
                if type(value) is not int or value < 1:
                    self.fails_size("kept", function, BOOK, (0, 1), (0,), value, None)
        for function in functions[:2]:
            for value in no_sequences() + [(), (1, 0), (2,), (0, 0), (True,), (0, 2), (0,)]:
                self.fails_at(InvalidList, -1, function, BOOK, (1,), value, None, None)
        for function in (telling_paper, functions[2]):
            for value in ANYTHING + (0,):
                if type(value) is not int or value < 1:
                    self.fails_size("most", function, BOOK, (0, 1), (0,), 1, value)
        self.same_in_lists(telling_paper, BOOK, (0, 1), (0,), 1, 16)
        self.same_in_lists(telling_parts, BOOK, (0, 1), 1, 16)
        paper = telling_paper(BOOK, (0, 1), (0,), 1, 16)
        self.assertIs(telling_holds(value=paper, kept=1, part=[0], values=[0, 1], book=in_lists(BOOK)), True)


if __name__ == "__main__":
    unittest.main()
