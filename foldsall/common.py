"""What several modules need: checks of plain values, rows, growing lots of rows, programs in the making."""

from itertools import combinations


def is_integer(value):
    """Whether a value is an integer; a bool is none here."""
    return isinstance(value, int) and not isinstance(value, bool)


def is_number(value):
    """Whether a value is an integer from 0 on."""
    return is_integer(value) and value >= 0


def is_below(many, value):
    """Whether a value is a number below many."""
    return is_number(value) and value < many


def is_between(least, most, value):
    """Whether a value is an integer from least to most."""
    return is_integer(value) and least <= value <= most


def is_sequence(value):
    """Whether a value may be passed where a sequence is expected."""
    return isinstance(value, (list, tuple))


def is_row_of(many, value):
    """Whether a value is a sequence of just so many things."""
    return is_sequence(value) and len(value) == many


def is_tuple_of(many, value):
    """Whether a value is a tuple of just so many things; papers and programs have no lists."""
    return isinstance(value, tuple) and len(value) == many


def first_not_rising(many, values):
    """The place of the first thing that is no number below many, or not above the one ahead; None if all are."""
    for at, value in enumerate(values):
        if not is_below(many, value):
            return at
        if at > 0 and value <= values[at - 1]:
            return at
    return None


def is_value_list(size, value):
    """Whether a sequence has one value or more of a size, ascending, unlike."""
    return is_sequence(value) and len(value) > 0 and first_not_rising(size, value) is None


def power(base, times):
    """The base, as often as told with itself: exponents that are no literals are not let."""
    product_now = 1
    for _ in range(times):
        product_now *= base
    return product_now


def product_of(numbers):
    """All numbers, each with each."""
    product_now = 1
    for number in numbers:
        product_now *= number
    return product_now


def all_rows(choices):
    """All rows of one thing of each of the choices, in their order, the first place counting most."""
    rows = [()]
    for things in choices:
        rows = [(*row, thing) for row in rows for thing in things]
    return rows


def value_rows(size, places):
    """All rows of so many values, ascending."""
    return all_rows([list(range(size)) for _ in range(places)])


def unlike_couples(many):
    """All (one, other) of unlike numbers below many, ascending."""
    return [(one, other) for one in range(many) for other in range(many) if one != other]


def lots_below(many, length):
    """All ascending rows of so many unlike numbers below many, ascending."""
    return list(combinations(range(many), length))


def spot_in(sizes, row):
    """Where the answer for a row of values stands, if values are of these sizes."""
    spot = 0
    for size, value in zip(sizes, row):
        spot = spot * size + value
    return spot


def answered(answers, sizes, rows):
    """The answers of rows, one for each place, value by value."""
    spots = rows[0]
    for at in range(1, len(rows)):
        size = sizes[at]
        spots = [spot * size + value for spot, value in zip(spots, rows[at])]
    return tuple([answers[spot] for spot in spots])


def is_alike(row):
    """Whether a row has one value throughout."""
    return row.count(row[0]) == len(row)


def left_many(held):
    """At how many places nothing is held."""
    return held.count(None)


def held_choices(worlds):
    """All ways to hold some places at values of their own, one place at least left; the most held first.

    So what has one value throughout is rather held than read: no row that grows is made of it but where it must.
    """
    rows = all_rows([[None, *values] for values in worlds])
    return sorted([row for row in rows if None in row], key=left_many)


def held_answers(answers, sizes, held):
    """The answers for all rows of values at the places left, the others as held."""
    choices = [list(range(size)) if value is None else [value] for size, value in zip(sizes, held)]
    return tuple([answers[spot_in(sizes, row)] for row in all_rows(choices)])


def hangs_at(sizes, answers, place):
    """Whether two rows that differ at the place alone have unlike answers, if places have these sizes."""
    step = product_of(sizes[place + 1:])
    for spot, answer in enumerate(answers):
        # Each row beside the one with 0 at the place: if none is unlike that one, no two are unlike.
        if answer != answers[spot - (spot // step % sizes[place]) * step]:
            return True
    return False


class HeldTable:
    """An operation with told values at some places: how it is written, and what it makes of the rest.

    `parts` has a told row, or None, for each place; `sorts` and `sizes` are those of the places left,
    `made` is the sort of the answers. A book of plain values has the one sort 0.
    """

    def __init__(self, number, parts, sorts, sizes, made, answers):
        self.number = number
        self.parts = parts
        self.sorts = sorts
        self.sizes = sizes
        self.made = made
        self.answers = answers


class Growth:
    """The least lot of rows, by sorts, that has some rows and all that held tables lead rows of it to."""

    def __init__(self, sorts_many, tables):
        self.tables = tables
        self.found = [[] for _ in range(sorts_many)]
        self.done = [0 for _ in range(sorts_many)]
        self.reasons = {}
        self.order = []
        self.alike = None

    def take_row(self, sort, row, reason):
        """Takes a row in, if it is new."""
        if (sort, row) in self.reasons:
            return
        self.reasons[(sort, row)] = reason
        self.order.append((sort, row))
        self.found[sort].append(row)
        if self.alike is None and is_alike(row):
            self.alike = (sort, row)

    def grow(self, till_alike):
        """Goes on till nothing new comes, or till a row of one value throughout is there."""
        at = 0
        while at < len(self.order) and not (till_alike and self.alike is not None):
            sort, row = self.order[at]
            for table in self.tables:
                self.lead(table, sort, row)
            self.done[sort] += 1
            at += 1

    def lead(self, table, sort, row):
        """Takes in what a table makes of rows done before and this one, this one among them."""
        for rows in self.choices_with(table, sort, row):
            self.take_row(table.made, answered(table.answers, table.sizes, rows), (table, rows))

    def choices_with(self, table, sort, row):
        """What a table may read of rows done before and this one, this one among them."""
        found = []
        for first, own in enumerate(table.sorts):
            if own != sort:
                continue
            choices = []
            for place, other in enumerate(table.sorts):
                behind = place > first and other == sort
                choices.append(self.found[other][:self.done[other] + (1 if behind else 0)])
            choices[first] = [row]
            found.extend(all_rows(choices))
        return found


class Weave:
    """Rows of a straight program in the making, behind some inputs."""

    def __init__(self, many):
        self.many = many
        self.rows = []
        self.told = {}

    def put_line(self, line):
        """Puts a row behind all, and tells its number."""
        self.rows.append(line)
        self.many += 1
        return self.many - 1

    def put_told(self, line):
        """Tells the number of a told row, which is put just once."""
        if line not in self.told:
            self.told[line] = self.put_line(line)
        return self.told[line]

    def put_table(self, table, numbers):
        """Puts a row of a held table that reads these registers at the places left."""
        reads = []
        at = 0
        for part in table.parts:
            if part is None:
                reads.append(numbers[at])
                at += 1
            else:
                reads.append(self.put_told(part))
        return self.put_line(("of", table.number, tuple(reads)))

    def put_goals(self, growth, starts, goals):
        """Puts the rows that lead from the starts' registers to rows that have grown; tells the registers of these."""
        needed = {goal: True for goal in goals}
        for key in reversed(growth.order):
            if key in needed and key not in starts:
                table, rows = growth.reasons[key]
                for sort, row in zip(table.sorts, rows):
                    needed[(sort, row)] = True
        numbers = {key: starts[key] for key in starts}
        for key in growth.order:
            if key in needed and key not in numbers:
                table, rows = growth.reasons[key]
                reads = [numbers[(sort, row)] for sort, row in zip(table.sorts, rows)]
                numbers[key] = self.put_table(table, reads)
        return [numbers[goal] for goal in goals]

    def put_grown(self, growth, starts, goal):
        """Puts the rows that lead from the starts' registers to a row that has grown; tells its register."""
        return self.put_goals(growth, starts, [goal])[0]

    def put_lie(self, growth, starts, lie):
        """Puts a row with an answer that no run shows, and those that lead to what it reads; tells its register."""
        table, rows, _ = lie
        goals = [(sort, row) for sort, row in zip(table.sorts, rows)]
        return self.put_table(table, self.put_goals(growth, starts, goals))


def unshown(answers, sizes, rows):
    """An answer to one value of each row that is no answer to the rows value by value; None if there is none."""
    shown = answered(answers, sizes, rows)
    for row in all_rows(rows):
        answer = answers[spot_in(sizes, row)]
        if answer not in shown:
            return answer
    return None


def found_lie(growth):
    """A table, rows that have grown, and an answer that is not shown; None if there is none.

    What has one value throughout is left out: to read it is to be held at it.
    """
    grown = [[row for row in rows if not is_alike(row)] for rows in growth.found]
    for table in growth.tables:
        for rows in all_rows([grown[sort] for sort in table.sorts]):
            answer = unshown(table.answers, table.sizes, rows)
            if answer is not None:
                return (table, rows, answer)
    return None


class Parting:
    """As many ways over numbers as can be, from some to some, each number in one of them at most.

    `nexts` has for each number those to which a step goes, all greater. Each number stands twice, one behind
    another, at 2 * number and behind; a way begins at -1 and ends at -2.
    """

    def __init__(self, nexts, begins, goals):
        self.nexts = {-1: [2 * number for number in begins], -2: []}
        for number, others in enumerate(nexts):
            self.nexts[2 * number] = [2 * number + 1]
            self.nexts[2 * number + 1] = sorted({2 * other for other in others})
        for number in goals:
            self.nexts[2 * number + 1].append(-2)
        self.lasts = {spot: [] for spot in self.nexts}
        for spot in self.nexts:
            for other in self.nexts[spot]:
                self.lasts[other].append(spot)
        self.used = {}
        while self.put_way():
            pass

    def can_step(self, one, other):
        """Whether one more way may go a step, or one way less."""
        if other in self.nexts[one]:
            # Only a number's own step is narrow: it is gone once.
            return one < 0 or one % 2 == 1 or (one, other) not in self.used
        return (other, one) in self.used

    def reached(self, begin, is_back):
        """What can be stepped to from a spot, or from where it can be stepped to; each with the spot ahead."""
        reached = {begin: None}
        waits = [begin]
        while waits:
            spot = waits.pop()
            for other in self.nexts[spot] + self.lasts[spot]:
                does_step = self.can_step(other, spot) if is_back else self.can_step(spot, other)
                if other not in reached and does_step:
                    reached[other] = spot
                    waits.append(other)
        return reached

    def put_way(self):
        """Puts one way more, if it can be; tells whether it was."""
        reached = self.reached(-1, False)
        if -2 not in reached:
            return False
        spot = -2
        while spot != -1:
            ahead = reached[spot]
            if spot in self.nexts[ahead]:
                self.used[(ahead, spot)] = True
            else:
                del self.used[(spot, ahead)]
            spot = ahead
        return True

    def ways(self):
        """The ways, told by their numbers."""
        found = []
        for begin in self.nexts[-1]:
            if (-1, begin) in self.used:
                way = []
                spot = begin
                while spot != -2:
                    way.append(spot // 2)
                    spot = [other for other in self.nexts[spot + 1] if (spot + 1, other) in self.used][0]
                found.append(tuple(way))
        return tuple(found)

    def cut(self, is_far):
        """As many numbers that all ways pass: those whose near side is least, or greatest."""
        reached = self.reached(-2 if is_far else -1, is_far)
        lot = []
        for spot in self.nexts:
            if spot >= 0 and spot % 2 == 0 and (spot in reached) != (spot + 1 in reached):
                lot.append(spot // 2)
        return tuple(lot)
