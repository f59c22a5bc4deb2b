"""[70]: a bench by hand, with deeds undone and done again."""

import random
import unittest

from foldsall.bench import Bench, bench_behind
from foldsall.code import run_code, write_code
from foldsall.errors import FoldError, InvalidBook, InvalidIndex, InvalidProgram, Refused
from foldsall.folding import folded_values, kept_sets
from foldsall.live import Live
from foldsall.passes import cut_program, plain_form
from foldsall.runs import all_runs, run_ends
from tests.helpers import AND, ANYTHING, LEAST, NOT, TURN, XOR, Fails, has_lists, in_lists, no_rows_of, no_sequences, no_values

BOOK = (2, (AND, NOT))
BOOKS = (BOOK, (3, (LEAST, TURN)), (2, (XOR,)), (2, ()))


def state(bench):
    return (bench.program_now(), bench.folded_now(), bench.kept_now(), bench.runs_now(), bench.looked)


def random_deed(dice, book, bench):
    """Some deed, right or wrong."""
    lists, rows, _ = bench.program_now()
    many = len(lists) + len(rows) + (dice.random() < 0.1)
    word = dice.choice(("put", "put", "put", "set", "take", "list", "ends", "odd"))
    row = ("told", dice.randrange(book[0]))
    if book[1] and many and dice.random() < 0.7:
        number = dice.randrange(len(book[1]))
        row = ("of", number, tuple(dice.randrange(many) for _ in range(book[1][number][0])))
    values = [value for value in range(book[0]) if dice.random() < 0.7]
    deed = {"put": ("put", row), "set": ("set", dice.randrange(many + 1), row), "take": ("take", dice.randrange(many + 1)),
            "list": ("list", dice.randrange(3), values), "odd": ("odd", 0),
            "ends": ("ends", [dice.randrange(many) for _ in range(dice.randrange(3))] if many else [])}[word]
    return list(deed) if dice.random() < 0.5 else deed


def in_tuples(value):
    return tuple(in_tuples(part) for part in value) if isinstance(value, (list, tuple)) else value


class Model:
    """What stands: the deeds that were done, and those taken back."""

    def __init__(self, book, inputs, one, other):
        self.start, self.deeds, self.undone = (book, inputs, one, other), [], []

    def bench(self, many=None):
        return bench_behind(*self.start, self.deeds if many is None else self.deeds[:many])


class LiveTest(Fails, unittest.TestCase):
    def look_at(self, live, model):
        self.assertEqual(live.deeds, tuple(model.deeds))
        self.assertFalse(has_lists(live.deeds))
        self.assertIsInstance(live.bench, Bench)
        bench = model.bench()
        self.assertEqual(state(live.bench), state(bench))
        book, program = model.start[0], bench.program_now()
        self.assertEqual(live.bench.folded_now(), folded_values(book, program))
        self.assertEqual(live.bench.kept_now(), kept_sets(book, program))

    def test_deeds(self):
        done = wrong = back = 0
        for seed in range(60):
            book, dice = BOOKS[seed % 4], random.Random(seed)
            inputs = [[0, 1], list(range(book[0]))][:1 + seed % 2]
            live, model = Live(book, inputs, 0, 1), Model(book, in_tuples(inputs), 0, 1)
            inputs.clear()
            for _ in range(22):
                what = dice.random()
                if what < 0.2:
                    self.assertIs(live.undo_deed(), bool(model.deeds))
                    if model.deeds:
                        model.undone.append(model.deeds.pop())
                        back += 1
                elif what < 0.35:
                    self.assertIs(live.redo_deed(), bool(model.undone))
                    if model.undone:
                        model.deeds.append(model.undone.pop())
                else:
                    deed = random_deed(dice, book, live.bench)
                    kept = state(live.bench)
                    try:
                        expected = bench_behind(*model.start, model.deeds + [deed]).looked
                    except FoldError:
                        with self.assertRaises(FoldError):
                            live.do_deed(deed)
                        self.assertEqual(state(live.bench), kept)
                        wrong += 1
                    else:
                        self.assertEqual(live.do_deed(deed), expected)
                        model.deeds.append(in_tuples(deed))
                        model.undone = []
                        done += 1
                self.look_at(live, model)
            for number in range(len(model.deeds) + 1):
                self.assertEqual(live.folded_then(number), model.bench(number).folded_now())
            self.look_at(live, model)
        self.assertGreater(min(done, wrong, back), 50)

    def test_told_deeds(self):
        live = Live((2, (AND,)), [(0, 1)], 0, 1)
        self.assertEqual((live.deeds, live.undo_deed(), live.redo_deed(), live.bench.looked), ((), False, False, ()))
        self.assertEqual((live.do_deed(("put", ("told", 0))), live.do_deed(("put", ("of", 0, (0, 1)))), live.bench.folded_now()),
                         ((1,), (2,), (None, 0, 0)))
        self.assertEqual((live.folded_if(0, ("put", ("told", 1))), live.undo_deed(), live.folded_then(1), live.redo_deed(), live.redo_deed()),
                         ((2, (None, 1, None)), True, (None, 0), True, False))
        self.assertEqual(live.do_deed(["ends", [2, 0]]), ())
        self.assertEqual(live.do_deed(["list", 0, [1]]), (0, 2))
        self.assertEqual(live.deeds[2:], (("ends", (2, 0)), ("list", 0, (1,))))
        self.assertEqual((live.undo_deed(), live.undo_deed(), live.undo_deed(), live.undo_deed(), live.undo_deed()),
                         (True, True, True, True, False))
        self.assertEqual([live.redo_deed() for _ in range(3)], [True, True, True])
        self.assertEqual(live.deeds, (("put", ("told", 0)), ("put", ("of", 0, (0, 1))), ("ends", (2, 0))))
        # A new deed lets those taken back go; a deed that can't be done doesn't.
        self.fails_at(Refused, 2, live.do_deed, ("take", 2))
        self.fails_at(InvalidIndex, -1, live.do_deed, ("untake", 2))
        self.assertIs(live.redo_deed(), True)
        self.assertIs(live.undo_deed(), True)
        self.assertEqual(live.do_deed(("put", ("told", 1))), (3,))
        self.assertIs(live.redo_deed(), False)

    def test_as_if(self):
        several = 0
        for seed in range(40):
            book, dice = BOOKS[seed % 4], random.Random(seed)
            live, model = Live(book, [(0, 1)], 0, 1), Model(book, ((0, 1),), 0, 1)
            for _ in range(12):
                deed = random_deed(dice, book, live.bench)
                try:
                    live.do_deed(deed)
                    model.deeds.append(in_tuples(deed))
                except FoldError:
                    pass
            for number in range(len(model.deeds)):
                for deed in [random_deed(dice, book, live.bench) for _ in range(3)] + [None, ("put",), model.deeds[number]]:
                    deeds = model.deeds[:number] + [deed] + model.deeds[number + 1:]
                    many = 0
                    for many in range(number, len(deeds) + 1):
                        try:
                            bench = bench_behind(*model.start, deeds[:many])
                        except FoldError:
                            many -= 1
                            break
                    told = live.folded_if(number, deed)
                    self.assertEqual(told, (many, bench.folded_now()))
                    self.assertFalse(has_lists(told))
                    several += number < many < len(deeds)
            self.look_at(live, model)
        self.assertGreater(several, 30)

    def test_plain_and_code(self):
        for seed in range(40):
            book, dice = BOOKS[seed % 4], random.Random(seed)
            live = Live(book, [(0, 1), (1,)], 0, 1)
            for _ in range(12):
                try:
                    live.do_deed(random_deed(dice, book, live.bench))
                except FoldError:
                    pass
                program = live.bench.program_now()
                self.assertEqual(live.plain_now(), plain_form(book, cut_program(book, program)))
                self.assertEqual(live.code_now(), write_code(book, program))
            for values, choices in all_runs(book, program, 0):
                self.assertEqual(run_code(book, live.code_now(), values, choices), run_ends(book, program, values, choices))

    def test_wrong_inputs(self):
        for value in no_rows_of(2):
            self.fails_at(InvalidBook, -1, Live, value, None, None, None)
        for value in no_sequences() + [[()], [(0, 2)], [None], (0, 1)]:
            self.fails_at(InvalidProgram, 0, Live, BOOK, value, None, None)
        for value in no_values(2):
            self.fails_at(InvalidIndex, 0, Live, BOOK, (), value, None)
            self.fails_at(InvalidIndex, 1, Live, BOOK, (), 0, value)
        live = Live(inputs=[[0, 1]], other=1, one=0, book=in_lists(BOOK))
        live.do_deed(deed=("put", ("of", 1, (0,))))
        live.do_deed(("ends", (1,)))
        live.do_deed(("put", ("told", 1)))
        live.undo_deed()
        kept = state(live.bench), live.deeds
        for value in ANYTHING + (("puts", ("told", 1)), ("put",), ("put", ("told", 1), 0), ("set", 1), ("take",), ("take", 1, 1), ("list", 0),
                                 ("ends",), ("ends", (), ()), ((), ()), (None, None), (["put"], ("told", 0))):
            self.fails_at(InvalidIndex, -1, live.do_deed, value)
        for deed, error, at in ((("put", None), InvalidProgram, 1), (("put", ["told", 1]), InvalidProgram, 1), (("put", ("of", 1, [0])), InvalidProgram, 1),
                                (("set", 0, ("told", 1)), InvalidIndex, -1), (("set", 1, ("of", 1, (1,))), InvalidProgram, 1),
                                (("take", 0), InvalidIndex, -1), (("take", 1), Refused, 1), (("list", 1, (0,)), InvalidIndex, -1),
                                (("list", 0, ()), InvalidProgram, 0), (("ends", (2,)), InvalidProgram, 2), (("ends", 1), InvalidProgram, 2)):
            self.fails_at(error, at, live.do_deed, deed)
        for value in no_values(3):
            self.fails_at(InvalidIndex, -1, live.folded_then, value)
        for value in no_values(2):
            self.fails_at(InvalidIndex, -1, live.folded_if, value, ("put", ("told", 1)))
        self.assertEqual((state(live.bench), live.deeds), kept)
        self.assertEqual(live.folded_then(number=1), (None, None))
        self.assertEqual(live.folded_if(deed=("put", ("told", 1)), number=0), (2, (None, 1)))
        self.assertIs(live.redo_deed(), True)
        with self.assertRaises(TypeError):
            iter(live)
        with self.assertRaises(TypeError):
            len(live)
        self.assertIsNone(None if live == live.bench else None)

    def test_what_was_passed_may_change(self):
        values, ends, deed = [0, 1], [1], ["put", ("told", 1)]
        inputs = [values]
        live = Live(BOOK, inputs, 0, 1)
        values.append(5)
        inputs.append(None)
        live.do_deed(deed)
        deed[1] = None
        live.do_deed(("ends", ends))
        ends.append(7)
        self.assertEqual(live.deeds, (("put", ("told", 1)), ("ends", (1,))))
        live.undo_deed()
        self.assertIs(live.redo_deed(), True)
        self.assertEqual(live.bench.program_now(), (((0, 1),), (("told", 1),), (1,)))


if __name__ == "__main__":
    unittest.main()
