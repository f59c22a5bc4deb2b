"""What is told by looking at tests as well: at once, or round by round."""

from foldsall.common import held_answers, is_alike, is_between
from foldsall.errors import InvalidSize
from foldsall.programs import all_count, need_program, rows_count
from foldsall.tables import need_book


NOBODY = -1


def met(one, other):
    """What two told things come to where they meet."""
    if one == NOBODY:
        return other
    return one if other == NOBODY or other == one else None


def barred_sides(row, told):
    """The sides of a fork that its test bars, by what is told."""
    if row[1] is None:
        return ()
    number, value = row[1]
    if told[number] == NOBODY:
        return (0, 1)
    if told[number] is None:
        return ()
    return (1,) if told[number] == value else (0,)


class Coming:
    """What is told of each register, gone on with till nothing new is told.

    Sides of forks are told by the way to them: places of rows, and sides, one within another. `struck` has those
    to which nobody comes, whatever tests are; it is None where tests are looked at.
    """

    def __init__(self, book, program, struck):
        self.size, self.operations = book
        self.struck = struck
        self.told = [NOBODY] * all_count(program)
        self.bars = {}
        self.is_new = True
        for number, values in enumerate(program[0]):
            self.tell(number, values[0] if len(values) == 1 else None)
        while self.is_new:
            self.is_new = False
            self.bars = {}
            self.go(program[1], len(program[0]), ())

    def tell(self, number, value):
        """Tells a register this too."""
        now = met(self.told[number], value)
        if now != self.told[number]:
            self.told[number] = now
            self.is_new = True

    def go(self, rows, number, way):
        """Goes through rows to which somebody comes by a way, whose registers begin at a number."""
        for at, row in enumerate(rows):
            if row[0] == "fork":
                self.go_fork(row, number, (*way, at))
            elif row[0] == "loop":
                self.go_loop(row, number, (*way, at))
            else:
                self.tell(number, row[1] if row[0] == "told" else self.folded(row))
            number += rows_count([row])

    def folded(self, row):
        """What a row of an operation is told; nothing while something that it reads isn't."""
        held = [self.told[read] for read in row[2]]
        if NOBODY in held:
            return NOBODY
        made = held_answers(self.operations[row[1]][1], [self.size] * len(held), held)
        return made[0] if is_alike(made) else None

    def go_fork(self, row, number, way):
        """Goes through the sides of a fork to which somebody comes."""
        _, _, firsts, seconds, pairs = row
        begins = [number, number + rows_count(firsts)]
        behind = begins[1] + rows_count(seconds)
        bars = barred_sides(row, self.told)
        for side, rows in enumerate((firsts, seconds)):
            key = (*way, side)
            if side in bars:
                self.bars[key] = True
            is_struck = side in bars if self.struck is None else key in self.struck
            if is_struck:
                continue
            self.go(rows, begins[side], key)
            for at, pair in enumerate(pairs):
                self.tell(behind + at, self.told[pair[side]])

    def go_loop(self, row, number, way):
        """Goes through the rows of a loop, if somebody comes to them."""
        _, most, firsts, rows, agains = row
        for at, first in enumerate(firsts):
            self.tell(number + at, self.told[first])
        if most != 0:
            self.go(rows, number + len(firsts), way)
            for at, again in enumerate(agains):
                self.tell(number + at, self.told[again])


def told_at_once(book, program):
    """For each register its value, None if it is open, or -1 if nobody comes there; tests looked at all along."""
    program = need_program(book, program)
    return tuple(Coming(need_book(book), program, None).told)


def told_by_rounds(book, program):
    """The same round by round: behind each round the sides that what it tells bars are struck."""
    program = need_program(book, program)
    book = need_book(book)
    struck = {}
    found = []
    while True:
        coming = Coming(book, program, struck)
        found.append(tuple(coming.told))
        new = [side for side in coming.bars if side not in struck]
        if len(new) == 0:
            return tuple(found)
        struck = {side: True for side in [*struck, *new]}


def round_row(many):
    """Some book and program of so many forks one behind another, whose last round is the one behind as many."""
    if not is_between(1, 60, many):
        raise InvalidSize("many")
    # Each pair is told once its own fork is barred: so each round tells just the next fork's test.
    tests = [0] + list(range(2, many + 1))
    forks = tuple([("fork", (test, 0), (), (), ((0, 1),)) for test in tests])
    return ((2, ()), ((), (("told", 0), ("told", 1), *forks), (many + 1,)))


def loop_gap():
    """Some book, program and register that is told at once, but by no round."""
    fork = ("fork", (1, 0), (), (("told", 1),), ((0, 2),))
    return ((2, ()), ((), (("told", 0), ("loop", None, (0,), (fork,), (3,))), (1,)), 1)
