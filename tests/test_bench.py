"""[67], [68]: a bench where programs are edited, always as reckoned from nothing."""

import itertools
import random
import unittest

from foldsall.arrows import sure_pairs
from foldsall.bench import Bench, bench_behind
from foldsall.errors import FoldError, InvalidBook, InvalidIndex, InvalidProgram, Refused
from foldsall.folding import folded_values, kept_sets
from foldsall.lots import lot_paper
from foldsall.runs import run_values
from tests.helpers import (AND, ANYTHING, LEAST, MOST, NOT, OR, TURN, XOR, Fails, Writer, has_lists, in_lists, no_rows_of,
                           no_sequences, no_values)

BOOK = (2, (AND, NOT))
BOOKS = (BOOK, (2, (XOR, OR, AND)), (3, (LEAST, MOST)), (3, (TURN, LEAST)), (2, (AND, OR)), (3, (LEAST,)), (2, ()))


def state(bench):
    return (bench.program_now(), bench.folded_now(), bench.kept_now(), bench.runs_now(), bench.looked)


def reckoned(bench, book, one, other):
    """What the bench tells, reckoned from nothing."""
    program = bench.program_now()
    open_lists = [tuple(range(book[0])) if len(values) > 1 else values for values in program[0]]
    runs = []
    for value in (one, other):
        # A run may have values that are of no list: with all values in the lists it has them.
        values = [value if len(lot) > 1 else lot[0] for lot in program[0]]
        runs.append([row[0] for row in run_values(book, (tuple(open_lists),) + program[1:], values, ())])
    return (program, folded_values(book, program), kept_sets(book, program), tuple(zip(*runs)))


def random_deed(dice, book, bench):
    """A deed, most of which can be done."""
    lists, rows, _ = bench.program_now()
    many = len(lists) + len(rows)

    def row(below):
        if not below or not book[1] or dice.random() < 0.3:
            return ("told", dice.randrange(book[0]))
        number = dice.randrange(len(book[1]))
        return ("of", number, tuple(dice.randrange(below) for _ in range(book[1][number][0])))

    word = dice.choice(("put", "put", "put", "set", "set", "take", "list", "ends"))
    if word == "put":
        return ("put", row(many))
    if word == "set":
        spot = dice.randrange(len(lists), many + 1)
        return ("set", spot, row(spot))
    if word == "take":
        return ("take", dice.randrange(many + 1))
    if word == "list":
        return ("list", dice.randrange(len(lists) + 1), Writer(book, dice.random()).values())
    return ("ends", tuple(dice.randrange(many + 1) for _ in range(dice.randrange(3))))


def do_deed(bench, deed):
    names = {"put": bench.put_row, "set": bench.set_row, "take": bench.take_row, "list": bench.set_list,
             "ends": bench.set_ends}
    return names[deed[0]](*deed[1:])


def reads(row):
    return row[2] if row[0] == "of" else ()


class BenchTest(Fails, unittest.TestCase):
    def test_told_example(self):
        bench = Bench((2, (AND,)), [(0, 1)], 0, 1)
        self.assertEqual(state(bench), ((((0, 1),), (), ()), (None,), ((0, 1),), ((0, 1),), ()))
        self.assertEqual((bench.put_row(("told", 0)), bench.put_row(("of", 0, (0, 1))), bench.folded_now(), bench.runs_now()),
                         (1, 2, (None, 0, 0), ((0, 1), (0, 0), (0, 0))))
        self.assertEqual(bench.looked, (2,))
        self.assertEqual((bench.set_row(1, ("told", 1)), bench.looked, bench.folded_now()), (None, (1, 2), (None, 1, None)))
        self.assertEqual(bench.program_now(), (((0, 1),), (("told", 1), ("of", 0, (0, 1))), ()))
        self.assertIsNone(bench.set_ends([2, 0, 2]))
        self.assertEqual((bench.looked, bench.program_now()[2]), ((), (2, 0, 2)))
        self.assertIsNone(bench.set_list(0, [1]))
        self.assertEqual((bench.looked, bench.folded_now(), bench.kept_now(), bench.runs_now()),
                         ((0, 2), (1, 1, 1), ((1,), (1,), (1,)), ((1, 1), (1, 1), (1, 1))))

    def test_numbers_fall(self):
        bench = Bench(BOOK, [(0, 1), (1,)], 1, 0)
        for row in (("told", 0), ("of", 1, (0,)), ("of", 0, (3, 1)), ("told", 1)):
            bench.put_row(row)
        bench.set_ends((4, 5))
        self.assertIsNone(bench.take_row(2))
        self.assertEqual(bench.program_now(), (((0, 1), (1,)), (("of", 1, (0,)), ("of", 0, (2, 1)), ("told", 1)), (3, 4)))
        self.assertEqual((bench.folded_now(), bench.looked), ((None, 1, None, None, 1), ()))
        self.assertEqual(bench.runs_now(), ((1, 0), (1, 1), (0, 1), (0, 1), (1, 1)))
        self.fails_at(Refused, 2, bench.take_row, 2)
        self.fails_at(Refused, 4, bench.take_row, 4)
        bench.set_ends(())
        bench.take_row(4)
        bench.take_row(3)
        self.assertEqual(bench.program_now(), (((0, 1), (1,)), (("of", 1, (0,)),), ()))

    def test_random_deeds(self):
        for seed in range(160):
            dice = random.Random(seed)
            book = BOOKS[seed % len(BOOKS)]
            lists = [Writer(book, dice.random()).values() for _ in range(dice.randrange(4))]
            one, other = dice.randrange(book[0]), dice.randrange(book[0])
            bench, deeds = Bench(book, lists, one, other), []
            for _ in range(15):
                deed = random_deed(dice, book, bench)
                before = state(bench)
                try:
                    told = do_deed(bench, deed)
                except FoldError:
                    self.assertEqual(state(bench), before)
                    continue
                deeds.append(deed)
                self.assertEqual(told, len(before[1]) if deed[0] == "put" else None)
                self.assertFalse(has_lists(state(bench)) or has_lists(tuple(vars(bench).values())))
                self.assertEqual(state(bench)[:4], reckoned(bench, book, one, other))
                self.assertEqual(bench.looked, self.looked(before, state(bench), deed))
            for behind in (bench_behind(book, lists, one, other, deeds),
                           bench_behind(book, lists, one, other, [deed[:1] + (deed[1:]) for deed in deeds])):
                self.assertIsInstance(behind, Bench)
                self.assertEqual(state(behind)[:4], state(bench)[:4])
                if deeds:
                    self.assertEqual(behind.looked, bench.looked)

    def looked(self, before, now, deed):
        """The registers reckoned anew, by what has turned."""
        if deed[0] in ("take", "ends"):
            return ()
        lists, rows, _ = now[0]
        first = deed[1] if deed[0] in ("set", "list") else len(lists) + len(rows) - 1
        turned, found = {}, []
        for at in range(len(lists) + len(rows)):
            row = rows[at - len(lists)] if at >= len(lists) else ("told",)
            if at == first or any(read in turned for read in reads(row)):
                found.append(at)
                if at >= len(before[1]) or any(before[part][at] != now[part][at] for part in (1, 2, 3)):
                    turned[at] = True
        return tuple(found)

    def test_put_back(self):
        """Behind deeds that put all back it is as it was, but for what was looked at."""
        for seed in range(60):
            dice = random.Random(seed)
            book = BOOKS[seed % len(BOOKS)]
            bench = Bench(book, [tuple(range(book[0])), (0,)], 0, 1)
            for _ in range(12):
                try:
                    do_deed(bench, random_deed(dice, book, bench))
                except FoldError:
                    continue
            told, (lists, rows, ends) = state(bench)[:4], bench.program_now()
            for at, row in enumerate(rows):
                bench.set_row(2 + at, ("told", dice.randrange(book[0])))
                bench.set_row(2 + at, row)
                self.assertEqual(state(bench)[:4], told)
            bench.set_list(0, (1,))
            bench.set_list(1, [0, 1])
            bench.set_ends([0, 1, 0])
            new = bench.put_row(("told", 1))
            self.assertEqual(new, 2 + len(rows))
            bench.take_row(new)
            bench.set_ends(ends)
            bench.set_list(1, lists[1])
            bench.set_list(0, lists[0])
            self.assertEqual(state(bench)[:4], told)

    def test_nothing_turns(self):
        bench = bench_behind(BOOK, [(0, 1)], 0, 1, [("put", ("of", 1, (0,))), ("put", ("of", 1, (1,)))])
        self.assertIsNone(bench.set_row(1, ("of", 1, (0,))))
        self.assertEqual(bench.looked, (1,))
        self.assertIsNone(bench.set_list(0, (0, 1)))
        self.assertEqual(bench.looked, (0,))
        self.assertIsNone(bench.set_row(1, ("of", 0, (0, 0))))
        self.assertEqual(bench.looked, (1, 2))
        # What is kept turns, though neither what folding keeps nor the two runs do.
        bench = bench_behind((3, (TURN,)), [(0, 1, 2)], 0, 1, [("put", ("of", 0, (0,))), ("put", ("of", 0, (1,)))])
        bench.set_list(0, (0, 1))
        self.assertEqual((bench.looked, bench.kept_now()), ((0, 1, 2), ((0, 1), (1, 2), (0, 2))))

    def test_open_where_both_runs_differ(self):
        """Behind deeds, for pairs that are let: a register is open exactly if its two values are unlike."""
        seen = 0
        for seed in range(120):
            dice = random.Random(seed)
            book = BOOKS[seed % len(BOOKS)]
            for one, other in itertools.permutations(range(book[0]), 2):
                bench = Bench(book, [tuple(range(book[0]))] * 2, one, other)
                for _ in range(10):
                    deed = random_deed(dice, book, bench)
                    if deed[0] == "list" and dice.random() < 0.7:
                        continue
                    try:
                        do_deed(bench, deed)
                    except FoldError:
                        continue
                    for folded, runs in zip(bench.folded_now(), bench.runs_now()):
                        if (one, other) in sure_pairs(book):
                            self.assertEqual(folded is None, runs[0] != runs[1])
                            seen += 1
                        if folded is not None:
                            self.assertEqual(runs, (folded, folded))
            paper = lot_paper(book, tuple(range(len(book[1]))), tuple(range(book[0])))
            if paper[0] == "let":
                self.assertTrue(set(paper[1]) <= set(sure_pairs(book)))
        self.assertGreater(seen, 2000)

    def test_later_changes_have_no_effect(self):
        lists, ends = [[0, 1], [1]], [0, 1]
        bench = Bench([2, [list(AND), [1, [1, 0]]]], lists, 0, 1)
        bench.set_ends(ends)
        values = [0]
        bench.set_list(1, values)
        told = state(bench)
        lists[0].append(5)
        lists.append([0])
        ends.append(9)
        values.append(1)
        self.assertEqual(state(bench), told)
        self.assertFalse(has_lists(told))
        self.assertEqual(told[0], (((0, 1), (0,)), (), (0, 1)))

    def test_objects(self):
        bench = Bench(book=BOOK, inputs=((0, 1),), one=0, other=1)
        with self.assertRaises(TypeError):
            iter(bench)
        with self.assertRaises(TypeError):
            len(bench)
        self.assertEqual(bench.put_row(row=("told", 1)), 1)
        self.assertIsNone(bench.set_row(spot=1, row=("told", 0)))
        self.assertIsNone(bench.set_list(number=0, values=(1,)))
        self.assertIsNone(bench.set_ends(registers=()))
        self.assertIsNone(bench.take_row(spot=1))
        for name in ("put_row", "set_row", "take_row", "set_list", "set_ends", "program_now", "folded_now", "kept_now",
                     "runs_now"):
            self.assertIn(name, vars(Bench))
        self.assertEqual(state(Bench(BOOK, (), 1, 1)), (((), (), ()), (), (), (), ()))

    def test_wrong_benches(self):
        for function in (Bench, lambda *told: bench_behind(*told, None)):
            for value in no_rows_of(2):
                self.fails_at(InvalidBook, -1, function, value, None, None, None)
            for value in no_sequences():
                self.fails_at(InvalidProgram, 0, function, BOOK, value, None, None)
            for value in ANYTHING:
                self.fails_at(InvalidProgram, 0, function, BOOK, [(0, 1), value], None, None)
            for values in ((1, 0), (0, 0), (0, 2), [0, True], "01"):
                self.fails_at(InvalidProgram, 0, function, BOOK, (values,), None, None)
            for value in no_values(2):
                self.fails_at(InvalidIndex, 0, function, BOOK, (), value, value)
                self.fails_at(InvalidIndex, 1, function, BOOK, (), 1, value)

    def test_wrong_deeds(self):
        bench = bench_behind(BOOK, [(0, 1), (1,)], 0, 1, [("put", ("told", 0)), ("put", ("of", 0, (0, 2))), ("ends", (1,))])
        told = state(bench)
        wrong = list(ANYTHING) + [["told", 1], ("told", 2), ("told", True), ("told", 1, 1), ("of", 0, (0,)), ("of", 2, (0,)),
                                  ("of", 0, [0, 1]), ("of", 0, (0, 4)), ("of", 1, (-1,)), ("of", True, (0,)), ("of", 1, (True,)),
                                  ("fork", None, (), (), ()), ("loop", None, (0,), (), (0,)), ("of", 1, (None,)), ("of", 1),
                                  ("off", 1, (0,)), ("told", 1, (0,)), ("fork", 1, (0,))]
        for row in wrong:
            self.fails_at(InvalidProgram, 1, bench.put_row, row)
            self.fails_at(InvalidProgram, 1, bench.set_row, 2, row)
        for row in (("of", 1, (2,)), ("of", 1, (3,)), ("of", 0, (0, 2))):
            self.fails_at(InvalidProgram, 1, bench.set_row, 2, row)
        for spot in list(ANYTHING) + [4, -2]:
            self.fails_at(InvalidIndex, -1, bench.set_row, spot, None)
            self.fails_at(InvalidIndex, -1, bench.take_row, spot)
        self.fails_at(Refused, 2, bench.take_row, 2)
        for number in no_values(2):
            self.fails_at(InvalidIndex, -1, bench.set_list, number, None)
        for values in list(ANYTHING) + [(1, 0), (0, 0), (0, 2), [True]]:
            self.fails_at(InvalidProgram, 0, bench.set_list, 0, values)
        for value in no_sequences():
            self.fails_at(InvalidProgram, 2, bench.set_ends, value)
        for value in no_values(4):
            self.fails_at(InvalidProgram, 2, bench.set_ends, (0, value))
        self.assertEqual(state(bench), told)

    def test_bench_behind(self):
        good = [["put", ("told", 0)], ("put", ("of", 1, (1,))), ("ends", [2])]
        for value in no_sequences():
            self.fails_at(InvalidIndex, -1, bench_behind, BOOK, [(0, 1)], 0, 1, value)
        for value in list(ANYTHING) + [("put",), ("put", ("told", 2)), ("put", ["told", 0]), ("put", ("told", 0), 1), ("take", 2),
                                       ("take", 1), ("take", 0), ("take", 3), ("take", 1, 1), ("set", 0, ("told", 0)),
                                       ("set", 2, ("of", 1, (2,))), ("set", 2), ("list", 1, (0,)), ("list", 0, ()),
                                       ("list", 0), ("ends", (3,)), ("ends", 0), ("ends", (), ()), ("ends",),
                                       ("Put", ("told", 0)), (["put"], ("told", 0)), "put", ("undo",)]:
            self.fails_at(InvalidIndex, 3, bench_behind, BOOK, [(0, 1)], 0, 1, good + [value, None])
            if value not in ((), []):
                self.fails_at(InvalidIndex, 0, bench_behind, BOOK, [(0, 1)], 0, 1, (value,))
        bench = bench_behind(deeds=in_lists(()) + good, other=1, one=0, inputs=[[0, 1]], book=in_lists(BOOK))
        self.assertEqual(bench.program_now(), (((0, 1),), (("told", 0), ("of", 1, (1,))), (2,)))
        self.assertEqual(bench.looked, ())
        self.assertEqual(state(bench_behind(BOOK, [(0, 1)], 0, 1, ())), state(Bench(BOOK, [(0, 1)], 0, 1)))
        self.assertEqual(bench_behind(BOOK, [(0, 1)], 0, 1, good[:2]).looked, (2,))


if __name__ == "__main__":
    unittest.main()
