"""Runs of programs: what registers have in a run, all runs, and what some run shows."""

from foldsall.common import all_rows, is_below, is_number, is_row_of, is_sequence, power, product_of, spot_in
from foldsall.errors import InvalidChoices, InvalidIndex, InvalidSize, InvalidValues, Refused
from foldsall.programs import all_count, all_reads, need_program, rows_count
from foldsall.tables import need_book


class ToldChoices:
    """The choices of a run, told ahead."""

    def __init__(self, choices):
        self.choices = choices
        self.used = 0

    def take(self, most):
        """The next choice: a number that is not above most, or any number."""
        at = self.used
        if at == len(self.choices) or not is_number(self.choices[at]):
            raise InvalidChoices(at)
        if most is not None and self.choices[at] > most:
            raise InvalidChoices(at)
        self.used += 1
        return self.choices[at]

    def take_side(self):
        """Which rows of an unseen fork are gone through."""
        return self.take(1)

    def begin_loop(self, most):
        """How many turns a loop takes."""
        return self.take(most)

    def does_turn(self, told, turns, most):
        """Whether a loop turns again, behind some turns."""
        return turns < told


class FirstChoices(ToldChoices):
    """Choices that are 0 behind those told, each with the greatest that may stand in its place."""

    def __init__(self, choices, turns):
        ToldChoices.__init__(self, choices)
        self.turns = turns
        self.mosts = []

    def take(self, most):
        """The next choice."""
        if len(self.mosts) == len(self.choices):
            self.choices.append(0)
        self.mosts.append(self.turns if most is None else most)
        return self.choices[len(self.mosts) - 1]

    def next_choices(self):
        """The choices with which the next run begins; None if this one was the last."""
        at = len(self.choices) - 1
        while at >= 0 and self.choices[at] == self.mosts[at]:
            at -= 1
        return None if at < 0 else [*self.choices[:at], self.choices[at] + 1]


class Steps:
    """Choices told step by step: a 1 ahead of each turn of a loop, a 0 ahead of its end; 0 behind all."""

    def __init__(self, steps):
        self.steps = steps
        self.used = 0
        self.choices = []

    def step(self):
        """The next step."""
        self.used += 1
        return self.steps[self.used - 1] if self.used <= len(self.steps) else 0

    def take_side(self):
        """Which rows of an unseen fork are gone through."""
        self.choices.append(self.step())
        return self.choices[-1]

    def begin_loop(self, most):
        """Where the turns of a loop are to be told among the choices."""
        self.choices.append(0)
        return len(self.choices) - 1

    def does_turn(self, told, turns, most):
        """Whether a loop turns again, behind some turns."""
        if (most is not None and turns >= most) or self.step() == 0:
            return False
        self.choices[told] = turns + 1
        return True


class Going:
    """A run gone through: the values of all registers, and the rows of told values and operations on the way.

    `spots` has for each register those among these rows that have its values.
    """

    def __init__(self, book, program, values, guide):
        self.size, self.operations = book
        self.guide = guide
        self.known = [[] for _ in range(all_count(program))]
        self.spots = [[] for _ in self.known]
        self.rows = []
        self.many = len(values)
        for number, value in enumerate(values):
            self.put(number, value, number)
        self.go(program[1], len(values))

    def put(self, number, value, spot):
        """Gives a register its next value, which a spot among the rows has."""
        self.known[number].append(value)
        self.spots[number].append(spot)

    def go(self, rows, number):
        """Goes through rows whose registers begin at a number."""
        for row in rows:
            if row[0] == "fork":
                self.go_fork(row, number)
            elif row[0] == "loop":
                self.go_loop(row, number)
            else:
                self.go_line(row, number)
            number += rows_count([row])

    def go_line(self, row, number):
        """Goes through a row of a told value or an operation."""
        if row[0] == "told":
            value = row[1]
        else:
            reads = [self.known[read][-1] for read in row[2]]
            value = self.operations[row[1]][1][spot_in([self.size] * len(reads), reads)]
            row = ("of", row[1], tuple([self.spots[read][-1] for read in row[2]]))
        self.put(number, value, self.many)
        self.rows.append(row)
        self.many += 1

    def go_fork(self, row, number):
        """Goes through one side of a fork."""
        _, test, firsts, seconds, pairs = row
        if test is None:
            side = self.guide.take_side()
        else:
            side = 0 if self.known[test[0]][-1] == test[1] else 1
        if side == 0:
            self.go(firsts, number)
        else:
            self.go(seconds, number + rows_count(firsts))
        number += rows_count(firsts) + rows_count(seconds)
        for at, pair in enumerate(pairs):
            self.put(number + at, self.known[pair[side]][-1], self.spots[pair[side]][-1])

    def go_loop(self, row, number):
        """Goes through the turns of a loop."""
        _, most, firsts, rows, agains = row
        told = self.guide.begin_loop(most)
        self.put_heads(number, firsts)
        turns = 0
        while self.guide.does_turn(told, turns, most):
            self.go(rows, number + len(firsts))
            self.put_heads(number, agains)
            turns += 1

    def put_heads(self, number, reads):
        """Gives heads, all at once, what these registers have."""
        told = [(self.known[read][-1], self.spots[read][-1]) for read in reads]
        for at, (value, spot) in enumerate(told):
            self.put(number + at, value, spot)


def need_run(book, program, values, choices):
    """The run of a program; raises if anything is wrong."""
    program = need_program(book, program)
    if not is_row_of(len(program[0]), values):
        raise InvalidValues(-1)
    for at, value in enumerate(values):
        if not is_number(value) or value not in program[0][at]:
            raise InvalidValues(at)
    if not is_sequence(choices):
        raise InvalidChoices(-1)
    guide = ToldChoices(choices)
    going = Going(need_book(book), program, values, guide)
    if guide.used < len(choices):
        raise InvalidChoices(guide.used)
    return going


def run_values(book, program, values, choices):
    """For each register its values in a run, one after another."""
    return tuple([tuple(known) for known in need_run(book, program, values, choices).known])


def run_ends(book, program, values, choices):
    """The ends' last values in a run."""
    going = need_run(book, program, values, choices)
    return tuple([going.known[end][-1] for end in program[2]])


def straight_run(book, program, values, choices):
    """The straight program of the rows that a run goes through, and for each register those that have its values."""
    going = need_run(book, program, values, choices)
    ends = tuple([going.spots[end][-1] for end in program[2]])
    return ((program[0], tuple(going.rows), ends), tuple([tuple(spots) for spots in going.spots]))


def all_runs(book, program, turns):
    """All runs in which no loop of any number turns oftener, ascending."""
    program = need_program(book, program)
    if not is_number(turns):
        raise InvalidSize("turns")
    book = need_book(book)
    found = []
    for values in all_rows(program[0]):
        choices = []
        while choices is not None:
            guide = FirstChoices(choices, turns)
            Going(book, program, values, guide)
            found.append((values, tuple(guide.choices)))
            choices = guide.next_choices()
    return tuple(found)


def ways_through(rows):
    """In how many ways rows may be gone through."""
    many = 1
    for row in rows:
        if row[0] == "fork":
            if row[1] is not None:
                raise Refused("seen")
            many *= ways_through(row[2]) + ways_through(row[3])
        elif row[0] == "loop":
            if row[1] is None:
                raise Refused("turns")
            ways = ways_through(row[3])
            many *= row[1] + 1 if ways == 1 else (power(ways, row[1] + 1) - 1) // (ways - 1)
    return many


def runs_many(book, program):
    """How many runs there are."""
    program = need_program(book, program)
    return product_of([len(values) for values in program[0]]) * ways_through(program[1])


class Showing:
    """Lots of states, gone on with till nothing new comes: what registers have in some run.

    A state has for each register its value now, None where nobody reads it any more: so states that differ in
    such ones alone are gone on with once. States are told with the last of the steps that lead to them; a step
    is (the step ahead, choice), the first one of a run (None, values).
    """

    def __init__(self, book, program):
        self.size, self.operations = book
        self.steps = []
        self.shown = {}
        rest = (None,) * rows_count(program[1])
        states = {}
        for values in all_rows(program[0]):
            step = self.put_step(None, values)
            states[values + rest] = step
            for number, value in enumerate(values):
                self.shown.setdefault((number, value), step)
        self.go(states, program[1], len(program[0]), {})

    def put_step(self, ahead, choice):
        """Puts a step behind another one, and tells its number."""
        self.steps.append((ahead, choice))
        return len(self.steps) - 1

    def told_anew(self, states, numbers, values, read):
        """The states in which these registers have the values that each of the states gives."""
        found = {}
        for state, told in zip(states, values):
            now = [None] * len(state)
            for at in read:
                now[at] = state[at]
            for number, value in zip(numbers, told):
                self.shown.setdefault((number, value), states[state])
                if number in read:
                    now[number] = value
            found.setdefault(tuple(now), states[state])
        return found

    def copied(self, states, numbers, reads, read):
        """The states in which these registers have what others have."""
        values = [[state[number] for number in reads] for state in states]
        return self.told_anew(states, numbers, values, read)

    def go(self, states, rows, number, read):
        """The states behind rows whose registers begin at a number; behind them these registers are read."""
        later = []
        for row in rows[::-1]:
            later.append(read)
            read = {other: True for other in [*read, *all_reads([row])]}
        for row, behind in zip(rows, later[::-1]):
            if row[0] == "fork":
                states = self.go_fork(states, row, number, behind)
            elif row[0] == "loop":
                states = self.go_loop(states, row, number, behind)
            else:
                values = [[self.answer(row, state)] for state in states]
                states = self.told_anew(states, [number], values, behind)
            number += rows_count([row])
        return states

    def answer(self, row, state):
        """The value of a row of a told value or an operation."""
        if row[0] == "told":
            return row[1]
        reads = [state[number] for number in row[2]]
        return self.operations[row[1]][1][spot_in([self.size] * len(reads), reads)]

    def go_fork(self, states, row, number, read):
        """The states behind a fork."""
        _, test, firsts, seconds, pairs = row
        sides = [{}, {}]
        for state in states:
            for side in range(2):
                if test is None:
                    sides[side][state] = self.put_step(states[state], side)
                elif (state[test[0]] == test[1]) == (side == 0):
                    sides[side][state] = states[state]
        begin = number + rows_count(firsts)
        numbers = [begin + rows_count(seconds) + at for at in range(len(pairs))]
        found = {}
        for side, rows in enumerate((firsts, seconds)):
            reads = [pair[side] for pair in pairs]
            within = {other: True for other in [*read, *reads]}
            behind = self.go(sides[side], rows, begin if side == 1 else number, within)
            behind = self.copied(behind, numbers, reads, read)
            for state in behind:
                found.setdefault(state, behind[state])
        return found

    def go_loop(self, states, row, number, read):
        """The states behind a loop."""
        _, most, firsts, rows, agains = row
        heads = [number + at for at in range(len(firsts))]
        begin = number + len(firsts)
        # What a turn has made is made anew ahead of being read by the next one.
        kept = {other: True for other in [*read, *agains, *all_reads(rows)] if other < begin}
        within = {other: True for other in [*kept, *agains]}
        fresh = self.copied(states, heads, firsts, kept)
        found = {}
        turns = 0
        while fresh:
            is_last = most is not None and turns == most
            for state in fresh:
                found[state] = fresh[state] if is_last else self.put_step(fresh[state], 0)
            if is_last:
                break
            going = {state: self.put_step(fresh[state], 1) for state in fresh}
            behind = self.copied(self.go(going, rows, begin, within), heads, agains, kept)
            fresh = {state: behind[state] for state in behind if state not in found}
            turns += 1
        return self.copied(found, [], [], read)

    def run_to(self, step):
        """The values with which a run begins, and its choices up to a step."""
        told = []
        while self.steps[step][0] is not None:
            step, choice = self.steps[step]
            told.append(choice)
        return (self.steps[step][1], told[::-1])


def shown_of(book, program):
    """For each register of a program that is right the values that it has in some run, ascending."""
    shown = Showing(book, program).shown
    found = [[] for _ in range(all_count(program))]
    for number, value in sorted(shown):
        found[number].append(value)
    return tuple([tuple(values) for values in found])


def shown_values(book, program):
    """For each register the values that it has in some run, ascending."""
    program = need_program(book, program)
    return shown_of(need_book(book), program)


def shown_run(book, program, number, value):
    """Some run in which a register has a value; None if there is none."""
    program = need_program(book, program)
    book = need_book(book)
    if not is_below(all_count(program), number):
        raise InvalidIndex(0)
    if not is_below(book[0], value):
        raise InvalidIndex(1)
    showing = Showing(book, program)
    if (number, value) not in showing.shown:
        return None
    values, told = showing.run_to(showing.shown[(number, value)])
    steps = Steps(told)
    Going(book, program, values, steps)
    return (values, tuple(steps.choices))
