"""[62]: cut programs, passes in any order, and the plain form in which they end."""

import itertools
import random
import unittest

from foldsall.errors import InvalidBook, InvalidCut, InvalidIndex, InvalidPasses, InvalidProgram, Refused
from foldsall.passes import (cut_program, live_places, missed_alike, passed, plain_form, told_lines, whole_program)
from foldsall.programs import need_program
from foldsall.runs import run_ends, run_values
from tests.helpers import (AND, ANYTHING, KEEP, LEAST, MOST, NOT, OR, TURN, XOR, Fails, Writer, all_operations, answer,
                           changed, has_lists, in_lists, no_rows_of, no_sequences, no_values, rows_of)

WORDS = ("fold", "thin", "alike", "strike")
BOOK = (2, (AND, NOT))
LISTS = ((0, 1), (1,))
ONE = (2, (0, 1, 0, 1))     # the second place alone
BOOKS = (BOOK, (2, ()), (3, (LEAST, TURN)), (2, (XOR, ONE)), (2, (ONE, (1, (1, 1)))), (3, (MOST, (1, (0, 0, 2)))),
         (2, (OR, KEEP, (3, (0, 1, 1, 0, 1, 0, 0, 1)))), (4, ((2, tuple(min(row) // 2 for row in rows_of(4, 2))),)))


class Cuts:
    """Random cut programs over a book."""

    def __init__(self, book, seed):
        self.book, self.dice = book, random.Random(seed)

    def reading(self, inputs, lines):
        choices = [("value", self.dice.randrange(self.book[0]))]
        choices += [("in", self.dice.randrange(inputs))] * (2 if inputs else 0) if inputs else []
        choices += [("line", self.dice.randrange(lines))] * 3 if lines else []
        return self.dice.choice(choices)

    def cut(self, inputs, lines):
        writer = Writer(self.book, self.dice.random())
        lists = tuple(writer.values() for _ in range(inputs))
        made = []
        for at in range(lines if self.book[1] else 0):
            number = self.dice.randrange(len(self.book[1]))
            if made and self.dice.random() < 0.2:
                made.append(self.dice.choice(made))
            else:
                made.append((number, tuple(self.reading(inputs, at) for _ in range(self.book[1][number][0]))))
        return (lists, tuple(made), tuple(self.reading(inputs, len(made)) for _ in range(self.dice.randrange(3))))


def random_cuts(many):
    for seed in range(many):
        book = BOOKS[seed % len(BOOKS)]
        dice = random.Random(seed)
        yield book, Cuts(book, seed).cut(dice.randrange(1, 3), dice.randrange(8))


def run(book, cut, values):
    """The values of all lines, and of the ends."""
    known = {("in", at): value for at, value in enumerate(values)}
    known.update({("value", value): value for value in range(book[0])})
    for at, (number, readings) in enumerate(cut[1]):
        known["line", at] = answer(book[0], book[1][number], [known[reading] for reading in readings])
    return tuple(known["line", at] for at in range(len(cut[1]))), tuple(known[end] for end in cut[2])


def told(book, cut):
    """What folding tells of the lines, by going through all values of what is open."""
    found = []
    for number, readings in cut[1]:
        choices = []
        for word, at in readings:
            value = at if word == "value" else (found[at] if word == "line" else None)
            if word == "in" and len(cut[0][at]) == 1:
                value = cut[0][at][0]
            choices.append(range(book[0]) if value is None else [value])
        made = {answer(book[0], book[1][number], row) for row in itertools.product(*choices)}
        found.append(made.pop() if len(made) == 1 else None)
    return tuple(found)


def live(book, number, held):
    """Live places, by all rows of values at the places not held."""
    rows = list(itertools.product(*[range(book[0]) if value is None else [value] for value in held]))
    found = []
    for place in range(len(held)):
        if any(one[:place] == other[:place] and one[place + 1:] == other[place + 1:]
               and answer(book[0], book[1][number], one) != answer(book[0], book[1][number], other)
               for one, other in itertools.product(rows, repeat=2)):
            found.append(place)
    return tuple(found)


def term_of(book, cut, reading, folds):
    """The term of a reading: an input, a value where one is told, else the operation over terms, 0 where not live."""
    word, at = reading
    if word == "value":
        return reading
    if word == "in":
        return ("value", cut[0][at][0]) if len(cut[0][at]) == 1 else reading
    if folds[at] is not None:
        return ("value", folds[at])
    number, readings = cut[1][at]
    parts = [term_of(book, cut, part, folds) for part in readings]
    spots = live(book, number, tuple(part[1] if part[0] == "value" else None for part in parts))
    return ("of", number, tuple(part if part[0] == "value" or place in spots else ("value", 0)
                                for place, part in enumerate(parts)))


def terms(book, cut):
    folds = told(book, cut)
    return [term_of(book, cut, end, folds) for end in cut[2]]


def all_terms(found):
    """All terms of lines within terms."""
    lot = {}
    waiting = list(found)
    while waiting:
        term = waiting.pop()
        if term[0] == "of":
            lot[term] = True
            waiting.extend(term[2])
    return lot


class CutTest(Fails, unittest.TestCase):
    def test_told_cuts(self):
        program = (LISTS, (("told", 1), ("of", 0, (0, 2)), ("told", 0), ("of", 1, (3,)), ("of", 0, (5, 4))), (6, 2, 1, 3))
        cut = (LISTS, ((0, (("in", 0), ("value", 1))), (1, (("line", 0),)), (0, (("line", 1), ("value", 0)))),
               (("line", 2), ("value", 1), ("in", 1), ("line", 0)))
        self.assertEqual(cut_program(BOOK, program), cut)
        self.assertEqual(whole_program(BOOK, cut), (LISTS, (("told", 0), ("told", 1), ("of", 0, (0, 3)), ("of", 1, (4,)),
                                                            ("of", 0, (5, 2))), (6, 3, 1, 4)))
        self.assertEqual(cut_program(BOOK, ((), (("told", 1), ("told", 0)), ())), ((), (), ()))
        self.assertEqual(whole_program(BOOK, ((), (), (("value", 1), ("value", 1)))), ((), (("told", 1),), (0, 0)))
        self.assertEqual(whole_program((2, ()), ((), (), ())), ((), (), ()))

    def test_ends_stay(self):
        for seed in range(150):
            book = BOOKS[seed % len(BOOKS)]
            dice = random.Random(seed)
            program = Writer(book, seed, True).program(dice.randrange(1, 3), dice.randrange(8))
            cut = cut_program(book, program)
            again = whole_program(book, cut)
            self.assertEqual(need_program(book, again), again)
            self.assertEqual(len(cut[1]), sum(row[0] == "of" for row in program[1]))
            for values in itertools.product(*program[0]):
                ends = run_ends(book, program, values, ())
                self.assertEqual(run(book, cut, values)[1], ends)
                self.assertEqual(run_ends(book, again, values, ()), ends)

    def test_whole_programs(self):
        for book, cut in random_cuts(150):
            whole = whole_program(book, cut)
            read = sorted({at for line in list(cut[1]) + [(0, cut[2])] for word, at in line[1] if word == "value"})
            self.assertEqual([row[1] for row in whole[1] if row[0] == "told"], read)
            self.assertEqual([row[0] for row in whole[1]], ["told"] * len(read) + ["of"] * len(cut[1]))
            self.assertEqual(whole[0], cut[0])
            for values in itertools.product(*cut[0]):
                known = run_values(book, whole, values, ())
                self.assertEqual(tuple(one[0] for one in known[len(cut[0]) + len(read):]), run(book, cut, values)[0])
                self.assertEqual(run_ends(book, whole, values, ()), run(book, cut, values)[1])

    def test_refused(self):
        for row in (("fork", None, (), (), ()), ("fork", (0, 1), (), (), ()), ("loop", 0, (0,), (), (0,))):
            self.fails_at(Refused, "straight", cut_program, BOOK, (LISTS, (row,), ()))
        for value in no_rows_of(2):
            self.fails_at(InvalidBook, -1, cut_program, value, None)
        for value in no_rows_of(3):
            self.fails_at(InvalidProgram, -1, cut_program, BOOK, value)
        self.fails_at(InvalidProgram, 2, cut_program, BOOK, (LISTS, (("fork", None, (), (), ()),), (2,)))

    def wrong(self, at, cut, book=BOOK):
        for function in (whole_program, told_lines, plain_form):
            self.fails_at(InvalidCut, at, function, book, cut)
        self.fails_at(InvalidCut, at, passed, book, cut, None)

    def test_wrong_cuts(self):
        good = (LISTS, ((0, (("in", 0), ("value", 1))), (1, (("line", 0),))), (("line", 1),))
        self.assertEqual(passed(BOOK, good, ()), good)
        for value in no_rows_of(3) + [list(good), good + ((),), good[:2]]:
            self.wrong(-1, value)
        for value in ANYTHING:
            if value != ():
                self.wrong(0, (value, None, None))
                self.wrong(1, (LISTS, value, None))
                self.wrong(1, (LISTS, (value,), None))
                self.wrong(1, (LISTS, ((1, value),), None))
                self.wrong(1, (LISTS, ((1, (value,)),), None))
                self.wrong(2, (LISTS, (), value))
                self.wrong(2, (LISTS, (), (value,)))
            else:
                self.wrong(1, (LISTS, ((1, value),), None))
            if type(value) is not int or value not in (0, 1):
                for word in ("in", "value"):
                    self.wrong(1, (LISTS, ((1, ((word, value),)),), None))
                    self.wrong(2, (LISTS, (), ((word, value),)))
                self.wrong(1, (LISTS, ((value, (("in", 0),)),), None))
            self.wrong(1, (LISTS, ((1, (("line", value),)),), None))
        for lists in (((),), ((0, 2),), ((1, 0),), ([0, 1],), [(0, 1)]):
            self.wrong(0, (lists, None, None))
        for lines in (((0, (("in", 0),)),), ((1, (("in", 0), ("in", 0))),), ((2, (("in", 0),)),), ([1, (("in", 0),)],),
                      ((1, [("in", 0)]),), ((1, (["in", 0],)),), [(1, (("in", 0),))], ((1, (("in", 2),)),),
                      ((1, (("value", 2),)),), ((1, (("line", 0),)),), ((1, (("in", 0),)), (1, (("line", 1),))),
                      ((1, (("in", 0), )), (1, (("line", True),))), ((True, (("in", 0),)),), ((1, (("in", 0, 0),)),),
                      ((1, (("ins", 0),)),), ((1, (("in", 0),), ()),)):
            self.wrong(1, (LISTS, lines, None))
        for ends in ((("line", 2),), (("in", 2),), (("value", 2),), [("in", 0)], (["in", 0],), (("in", -1),), (("in", False),)):
            self.wrong(2, (good[0], good[1], ends))
        self.wrong(1, ((), ((0, ()),), ()), (2, ()))

    def test_all_parts_changed(self):
        good = (((0, 1),), ((0, (("in", 0), ("value", 1))),), (("line", 0),))
        for cut in changed(good):
            fits = self.is_cut(cut)
            try:
                plain_form(BOOK, cut)
            except InvalidCut:
                self.assertFalse(fits, cut)
            else:
                self.assertTrue(fits, cut)

    def is_cut(self, cut):
        """Whether a changed paper is a cut program: by writing out all of these."""
        if not isinstance(cut, tuple) or len(cut) != 3:
            return False
        lists, lines, ends = cut
        lots = [(), ((0, 1),), ((0,),), ((1,),), ((0, 1), (0, 1))]
        if repr(lists) not in [repr(lot) for lot in lots]:
            return False

        def readings(many):
            return ([("in", at) for at in range(len(lists))] + [("line", at) for at in range(many)]
                    + [("value", 0), ("value", 1)])

        rights = [()]
        for many in (1, 2):
            rows = [(number, row) for number, places in ((0, 2), (1, 1))
                    for row in itertools.product(readings(many - 1), repeat=places)]
            rights += [line + (row,) for line in rights if len(line) == many - 1 for row in rows]
        if repr(lines) not in [repr(right) for right in rights]:
            return False
        return isinstance(ends, tuple) and all(repr(end) in [repr(one) for one in readings(len(lines))] for end in ends)


class LiveTest(Fails, unittest.TestCase):
    def test_told_lines(self):
        for book, cut in random_cuts(250):
            self.assertEqual(told_lines(book, cut), told(book, cut))
        # An input of one value is told, one of two is open, though it has not all values.
        self.assertEqual(told_lines((3, (TURN,)), (((2,), (0, 1)), ((0, (("in", 0),)), (0, (("in", 1),))), ())), (0, None))

    def test_live_places(self):
        for size, places in ((2, 1), (2, 2), (3, 1)):
            for operation in all_operations(size, places):
                for held in itertools.product((None,) + tuple(range(size)), repeat=places):
                    self.assertEqual(live_places((size, (operation,)), 0, held), live((size, (operation,)), 0, held))
        book = (3, (LEAST, (3, tuple(row[0] if row[2] else row[1] for row in rows_of(3, 3)))))
        for number, places in ((0, 2), (1, 3)):
            for held in itertools.product((None, 0, 1, 2), repeat=places):
                self.assertEqual(live_places(book, number, held), live(book, number, held))
        self.assertEqual(live_places(book, 1, (None, None, 0)), (1,))
        self.assertEqual(live_places(book, 0, (0, None)), ())

    def test_wrong_places(self):
        for value in no_rows_of(2):
            self.fails_at(InvalidBook, -1, live_places, value, None, None)
        for value in no_values(2):
            self.fails_at(InvalidIndex, 0, live_places, BOOK, value, None)
        for value in no_rows_of(2):
            self.fails_at(InvalidIndex, 1, live_places, BOOK, 0, value)
        for value in no_values(2):
            if value is not None:
                self.fails_at(InvalidIndex, 1, live_places, BOOK, 0, (None, value))
        self.same_in_lists(live_places, BOOK, 0, (None, 1))


class PassTest(Fails, unittest.TestCase):
    def one(self, word, lists, lines, ends, lines_then, ends_then, book=BOOK):
        self.assertEqual(passed(book, (lists, lines, ends), (word,)), (lists, lines_then, ends_then))

    def test_fold(self):
        self.one("fold", LISTS, ((0, (("in", 0), ("value", 0))), (0, (("in", 1), ("line", 0))), (0, (("in", 0), ("in", 1)))),
                 (("line", 0), ("in", 1), ("line", 2), ("in", 0)),
                 ((0, (("in", 0), ("value", 0))), (0, (("value", 1), ("value", 0))), (0, (("in", 0), ("value", 1)))),
                 (("value", 0), ("value", 1), ("line", 2), ("in", 0)))

    def test_thin(self):
        book = (2, (ONE, OR))
        self.one("thin", LISTS, ((0, (("in", 0), ("in", 0))), (0, (("in", 1), ("in", 0))), (0, (("in", 0), ("in", 1))),
                                 (1, (("in", 0), ("value", 1))), (1, (("in", 0), ("line", 0)))), (("line", 3), ("in", 0)),
                 ((0, (("value", 0), ("in", 0))), (0, (("in", 1), ("in", 0))), (0, (("value", 0), ("in", 1))),
                  (1, (("value", 0), ("value", 1))), (1, (("in", 0), ("line", 0)))), (("line", 3), ("in", 0)), book)
        # What reads a folded line reads something told: it stays, and is held there.
        self.one("thin", ((0, 1),), ((1, (("value", 1), ("value", 0))), (0, (("line", 0), ("in", 0))),
                                     (1, (("line", 0), ("in", 0)))), (),
                 ((1, (("value", 1), ("value", 0))), (0, (("line", 0), ("in", 0))), (1, (("line", 0), ("value", 0)))), (),
                 book)

    def test_alike(self):
        line = (1, (("in", 0),))
        self.one("alike", LISTS, (line, line, (1, (("line", 1),)), (1, (("line", 0),)), (0, (("line", 3), ("line", 2)))),
                 (("line", 3), ("line", 1), ("in", 1)),
                 (line, line, (1, (("line", 0),)), (1, (("line", 0),)), (0, (("line", 2), ("line", 2)))),
                 (("line", 2), ("line", 0), ("in", 1)))

    def test_strike(self):
        line = (1, (("in", 0),))
        self.one("strike", LISTS, (line, (1, (("line", 0),)), line, (1, (("line", 2),)), (0, (("line", 2), ("value", 1)))),
                 (("line", 4), ("in", 0)), (line, (0, (("line", 0), ("value", 1)))), (("line", 1), ("in", 0)))
        self.one("strike", LISTS, (line, line), (), (), ())

    def test_ends_stay_and_lines_are_never_more(self):
        for at, (book, cut) in enumerate(random_cuts(240)):
            dice = random.Random(at)
            now = cut
            for word in [dice.choice(WORDS) for _ in range(6)]:
                behind = passed(book, now, (word,))
                self.assertLessEqual(len(behind[1]), len(now[1]))
                self.assertEqual(behind[0], cut[0])
                self.assertFalse(has_lists(behind))
                self.assertEqual(terms(book, behind), terms(book, cut))
                for values in itertools.product(*cut[0]):
                    self.assertEqual(run(book, behind, values)[1], run(book, cut, values)[1])
                now = behind
            words = [dice.choice(WORDS) for _ in range(5)]
            step = cut
            for word in words:
                step = passed(book, step, [word])
            self.assertEqual(passed(book, cut, words), step)

    def test_in_any_order(self):
        for at, (book, cut) in enumerate(random_cuts(120)):
            plain = plain_form(book, cut)
            for order in list(itertools.permutations(WORDS))[at % 5::5]:
                now, last = cut, None
                while now != last:
                    now, last = passed(book, now, order), now
                self.assertEqual(self.by_levels(now), plain)

    def by_levels(self, cut):
        """The lines in the order that the document tells, by trying all levels' lines by what they are."""
        levels = {}
        for at, (_, readings) in enumerate(cut[1]):
            levels[at] = 1 + max([levels[other] for word, other in readings if word == "line"], default=0)
        names, lines = {}, []
        for level in sorted(set(levels.values())):
            found = []
            for at in [at for at in levels if levels[at] == level]:
                number, readings = cut[1][at]
                found.append((number, tuple((word, names[other]) if word == "line" else (word, other)
                                            for word, other in readings)))
            here = [at for at in levels if levels[at] == level]
            for line, at in sorted(zip(found, here)):
                names[at] = len(lines)
                lines.append(line)
        return (cut[0], tuple(lines), tuple((word, names[at]) if word == "line" else (word, at) for word, at in cut[2]))

    def test_plain_forms(self):
        """Lines are the terms, each once."""
        for book, cut in random_cuts(240):
            plain = plain_form(book, cut)
            self.assertEqual(terms(book, plain), terms(book, cut))
            self.assertEqual(len(plain[1]), len(all_terms(terms(book, cut))))
            self.assertEqual(plain_form(book, plain), plain)
            self.assertEqual(passed(book, plain, WORDS), plain)
            for values in itertools.product(*cut[0]):
                self.assertEqual(run(book, plain, values)[1], run(book, cut, values)[1])

    def test_told_plain_forms(self):
        cut = (((0, 1),), ((1, (("in", 0),)), (1, (("in", 0),)), (0, (("line", 0), ("value", 0))),
                           (0, (("line", 1), ("line", 0))), (0, (("value", 1), ("in", 0)))),
               (("line", 3), ("line", 2), ("line", 4)))
        self.assertEqual(plain_form(BOOK, cut), (((0, 1),), ((0, (("value", 1), ("in", 0))), (1, (("in", 0),)),
                                                             (0, (("line", 1), ("line", 1)))),
                                                 (("line", 2), ("value", 0), ("line", 0))))

    def test_wrong_passes(self):
        cut = (LISTS, (), ())
        for value in no_sequences():
            self.fails_at(InvalidPasses, -1, passed, BOOK, cut, value)
        for value in ANYTHING + ("Fold", ("fold",)):
            self.fails_at(InvalidPasses, 0, passed, BOOK, cut, (value,))
            self.fails_at(InvalidPasses, 2, passed, BOOK, cut, ["fold", "strike", value, "x"])
        for value in no_rows_of(2):
            for function in (whole_program, told_lines, plain_form):
                self.fails_at(InvalidBook, -1, function, value, None)
            self.fails_at(InvalidBook, -1, passed, value, None, None)
            self.fails_at(InvalidBook, -1, missed_alike, value)

    def test_names_and_lists(self):
        cut = (((0, 1),), ((1, (("in", 0),)),), (("line", 0),))
        for function in (whole_program, told_lines, plain_form):
            self.assertEqual(function(book=in_lists(BOOK), cut=cut), function(BOOK, cut))
        words = ["fold", "thin"]
        self.assertEqual(passed(words=words, cut=cut, book=in_lists(BOOK)), cut)
        self.assertEqual(words, ["fold", "thin"])


class MissedAlikeTest(Fails, unittest.TestCase):
    def look(self, book):
        paper = missed_alike(book)
        if all(live(book, number, (None,) * places) == () for number, (places, _) in enumerate(book[1])):
            self.assertIsNone(paper)
            return
        self.assertFalse(has_lists(paper))
        cut, one, other = paper
        self.assertEqual(cut[0], (tuple(range(book[0])),))
        self.assertEqual(cut[2], (("line", one), ("line", other)))
        self.assertNotEqual(one, other)
        for value in range(book[0]):
            ends = run(book, cut, (value,))[1]
            self.assertEqual(ends[0], ends[1])
        plain = plain_form(book, cut)
        self.assertEqual([end[0] for end in plain[2]], ["line", "line"])
        self.assertNotEqual(plain[2][0], plain[2][1])
        # They stand as they are: the lines told are those of the plain form, or in another order.
        self.assertEqual(len(plain[1]), len(cut[1]))

    def test_missed(self):
        self.assertIsNone(missed_alike((2, ())))
        self.assertIsNone(missed_alike((3, ((2, (1,) * 9), (1, (0, 0, 0))))))
        for operation in all_operations(2, 1) + all_operations(2, 2) + all_operations(3, 1) + all_operations(4, 1):
            size = {2: 2, 4: 2 if operation[0] == 2 else 4, 3: 3}[len(operation[1])]
            self.look((size, (operation,)))
        for operation in all_operations(3, 2)[::97]:
            self.look((3, ((1, (2, 2, 2)), operation)))
        for operation in all_operations(2, 3):
            self.look((2, (operation,)))


if __name__ == "__main__":
    unittest.main()
