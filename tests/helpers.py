"""What several tests need: wrong values, all small operations, random programs, and a plain way to run them."""

import itertools
import random

from foldsall.bench import Bench
from foldsall.errors import InvalidText

# Any values: whatever is asked for, most of these are wrong.
ANYTHING = (None, True, False, -1, 0, 1, 9, 10 ** 30, "", "told", "size", (), [], (None,), [True], ((),), ("x", 1),
            (1, 2, 3), [2, [[1, [0, True]]]], (2, ((1, (0, 2)),)), ((((((((((((0,),),),),),),),),),),),),
            InvalidText(3), Bench((2, ()), (), 0, 1))

AND, OR, XOR, SAME = (2, (0, 0, 0, 1)), (2, (0, 1, 1, 1)), (2, (0, 1, 1, 0)), (2, (1, 0, 0, 1))
NOT, KEEP = (1, (1, 0)), (1, (0, 1))
LEAST = (2, (0, 0, 0, 0, 1, 1, 0, 1, 2))
MOST = (2, (0, 1, 2, 1, 1, 2, 2, 2, 2))
TURN = (1, (1, 2, 0))


def no_rows_of(many):
    """Any values that are no sequences of so many things."""
    return [value for value in ANYTHING if not (isinstance(value, (list, tuple)) and len(value) == many)]


def no_sequences():
    return [value for value in ANYTHING if not isinstance(value, (list, tuple))]


def no_values(size):
    """Any values that are no values of a size."""
    return [value for value in ANYTHING + (size,) if type(value) is not int or not 0 <= value < size]


def rows_of(size, places):
    return list(itertools.product(range(size), repeat=places))


def all_operations(size, places):
    return [(places, answers) for answers in itertools.product(range(size), repeat=size ** places)]


def answer(size, operation, row):
    spot = 0
    for value in row:
        spot = spot * size + value
    return operation[1][spot]


def in_lists(value):
    """The same in lists, at any depth."""
    return [in_lists(part) for part in value] if isinstance(value, (list, tuple)) else value


def has_lists(value):
    return isinstance(value, list) or (isinstance(value, tuple) and any(has_lists(part) for part in value))


def changed(value):
    """A paper with one thing changed, in all ways of a few: parts dropped, doubled, turned, in lists, or other ones."""
    if isinstance(value, tuple):
        yield list(value)
        yield value + (0,)
        for at in range(len(value)):
            yield value[:at] + value[at + 1:]
            yield value[:at] + (value[at],) + value[at:]
            for part in changed(value[at]):
                yield value[:at] + (part,) + value[at + 1:]
    elif isinstance(value, bool) or value is None:
        yield 5
    elif isinstance(value, int):
        yield value + 1
        yield value - 1
        yield None
        yield str(value)
        if value in (0, 1):
            yield bool(value)
    else:
        yield value + "x"
        yield 0


class Fails:
    """Mixed into tests: which error a call raises, and with what."""

    def fails(self, error, told, function, *arguments, **names):
        with self.assertRaises(error) as caught:
            function(*arguments, **names)
        self.assertIs(type(caught.exception), error)
        self.assertEqual(vars(caught.exception), told)
        for name in told:
            self.assertIs(type(getattr(caught.exception, name)), type(told[name]))

    def fails_at(self, error, at, function, *arguments, **names):
        self.fails(error, {"at": at}, function, *arguments, **names)

    def fails_size(self, word, function, *arguments, **names):
        from foldsall.errors import InvalidSize
        self.fails(InvalidSize, {"word": word}, function, *arguments, **names)

    def same_in_lists(self, function, *arguments):
        """A call tells the same with lists for tuples, by names, and again; nothing passed is changed."""
        told = function(*arguments)
        self.assertFalse(has_lists(told))
        lists = [in_lists(one) for one in arguments]
        kept = [in_lists(one) for one in arguments]
        self.assertEqual(function(*lists), told)
        self.assertEqual(lists, kept)
        names = function.__code__.co_varnames[:function.__code__.co_argcount]
        self.assertEqual(function(**dict(zip(names, arguments))), told)
        self.assertEqual(function(*arguments), told)
        return told


class Wanted(Exception):
    """A run wants a further choice."""

    def __init__(self, choices):
        self.choices = choices


class Run:
    """A run of a program, told step by step; also as its unrolled program is run."""

    def __init__(self, book, program, values, choices, turns):
        self.book, self.turns = book, turns
        self.choices, self.taken = choices, 0
        self.trace = [[value] for value in values]
        self.trace += [[] for _ in range(count(program[1]))]
        self.unrolled = []
        self.rows(program[1], len(values))
        self.ends = tuple(self.trace[end][-1] for end in program[2])

    def choice(self, many):
        if self.taken == len(self.choices):
            raise Wanted(range(many))
        self.taken += 1
        return self.choices[self.taken - 1]

    def now(self, number):
        return self.trace[number][-1]

    def rows(self, rows, number):
        for row in rows:
            if row[0] == "told":
                self.trace[number].append(row[1])
            elif row[0] == "of":
                values = [self.now(read) for read in row[2]]
                self.trace[number].append(answer(self.book[0], self.book[1][row[1]], values))
            elif row[0] == "fork":
                self.fork(row, number)
            else:
                self.loop(row, number)
            number += count([row])

    def fork(self, row, number):
        _, test, firsts, seconds, pairs = row
        if test is None:
            side = self.choice(2)
            self.unrolled.append(side)
        else:
            side = 0 if self.now(test[0]) == test[1] else 1
        self.rows((firsts, seconds)[side], number + (count(firsts) if side else 0))
        number += count(firsts) + count(seconds)
        for at, pair in enumerate(pairs):
            self.trace[number + at].append(self.now(pair[side]))

    def loop(self, row, number):
        _, most, firsts, rows, agains = row
        most = self.turns if most is None else most
        turns = self.choice(most + 1)
        values = [self.now(first) for first in firsts]
        for at, value in enumerate(values):
            self.trace[number + at].append(value)
        for _ in range(turns):
            self.unrolled.append(1)
            self.rows(rows, number + len(firsts))
            values = [self.now(again) for again in agains]
            for at, value in enumerate(values):
                self.trace[number + at].append(value)
        if turns < most:
            self.unrolled.append(0)


def count(rows):
    many = 0
    for row in rows:
        if row[0] == "fork":
            many += count(row[2]) + count(row[3]) + len(row[4])
        elif row[0] == "loop":
            many += len(row[2]) + count(row[3])
        else:
            many += 1
    return many


def all_runs(book, program, turns):
    """All runs in which no loop of any number turns oftener."""
    for values in itertools.product(*program[0]):
        waiting = [[]]
        while waiting:
            choices = waiting.pop()
            try:
                yield Run(book, program, values, choices, turns)
            except Wanted as wanted:
                waiting.extend(choices + [choice] for choice in wanted.choices)


class Writer:
    """Random programs over a book."""

    def __init__(self, book, seed, straight=False):
        self.book, self.random, self.straight = book, random.Random(seed), straight

    def values(self):
        lot = [value for value in range(self.book[0]) if self.random.random() < 0.7]
        return tuple(lot) or (self.random.randrange(self.book[0]),)

    def program(self, inputs, rows):
        lists = tuple(self.values() for _ in range(inputs))
        self.many = inputs
        seen = list(range(inputs))
        made = self.rows(seen, rows, 2)
        ends = tuple(self.random.choice(seen) for _ in range(2)) if seen else ()
        return (lists, made, ends)

    def rows(self, seen, many, deep):
        return tuple(self.row(seen, deep) for _ in range(many))

    def row(self, seen, deep):
        dice = self.random.random()
        if not self.straight and deep and dice < 0.25:
            return self.fork(seen, deep)
        if not self.straight and deep and seen and dice < 0.5:
            return self.loop(seen, deep)
        if not seen or not self.book[1] or dice < 0.6:
            made = ("told", self.random.randrange(self.book[0]))
        else:
            number = self.random.randrange(len(self.book[1]))
            made = ("of", number, tuple(self.random.choice(seen) for _ in range(self.book[1][number][0])))
        self.make(seen)
        return made

    def make(self, seen):
        seen.append(self.many)
        self.many += 1

    def fork(self, seen, deep):
        test = None
        if seen and self.random.random() < 0.5:
            test = (self.random.choice(seen), self.random.randrange(self.book[0]))
        one, other = list(seen), list(seen)
        firsts = self.rows(one, self.random.randrange(3), deep - 1)
        seconds = self.rows(other, self.random.randrange(3), deep - 1)
        pairs = ()
        if one and other:
            pairs = tuple((self.random.choice(one), self.random.choice(other)) for _ in range(self.random.randrange(3)))
        for _ in pairs:
            self.make(seen)
        return ("fork", test, firsts, seconds, pairs)

    def loop(self, seen, deep):
        most = self.random.choice((None, 0, 1, 2))
        firsts = tuple(self.random.choice(seen) for _ in range(self.random.randrange(1, 3)))
        for _ in firsts:
            self.make(seen)
        within = list(seen)
        rows = self.rows(within, self.random.randrange(3), deep - 1)
        agains = tuple(self.random.choice(within) for _ in firsts)
        return ("loop", most, firsts, rows, agains)
