"""Kept rows over runs of several sorts: whether folding misses nothing in all programs over a book of sorts."""

from foldsall.common import (Growth, HeldTable, Weave, all_rows, answered, held_answers, held_choices, is_alike,
                             is_below, is_tuple_of, lots_below)
from foldsall.sorts import (fold_sorted, need_sorted, place_sizes, program_fault, run_sorted, sort_parts,
                            sorts_reached)


def sorted_tables(book):
    """The held operations over sorts that are not dull; alike ones once."""
    sizes, operations = book
    tables = []
    seen = {}
    for number, (sorts, made, answers) in enumerate(operations):
        for held in held_choices([list(range(sizes[sort])) for sort in sorts]):
            left = tuple([sort for sort, value in zip(sorts, held) if value is None])
            rest = held_answers(answers, place_sizes(book, number), held)
            if is_alike(rest) or (left, made, rest) in seen:
                continue
            seen[(left, made, rest)] = True
            parts = [None if value is None else ("told", sort, value) for sort, value in zip(sorts, held)]
            tables.append(HeldTable(number, parts, left, [sizes[sort] for sort in left], made, rest))
    return tables


def grown_sorts(tables, starts, till_alike):
    """What held tables lead some rows to; a row, or None, for each sort."""
    growth = Growth(len(starts), tables)
    for sort, row in enumerate(starts):
        if row is not None:
            growth.take_row(sort, row, None)
    growth.grow(till_alike)
    return growth


def whole_row(growth, starts, goal):
    """What stands for a row that has grown if these rows stand for those from which it has."""
    wholes = {key: starts[key] for key in starts}
    for key in growth.order:
        if key not in wholes:
            table, rows = growth.reasons[key]
            reads = [wholes[(sort, row)] for sort, row in zip(table.sorts, rows)]
            wholes[key] = answered(table.answers, table.sizes, reads)
    return wholes[goal]


class Narrowed:
    """A program with one input for each part of sorts, each narrowed as far as programs within its part can.

    For each sort `spots` has the number of what is read for its input, `answers` the values of that.
    """

    def __init__(self, book):
        self.book = book
        self.tables = sorted_tables(book)
        self.parts = sort_parts(book)
        self.weave = Weave(len(self.parts))
        self.spots = [None for _ in book[0]]
        self.answers = [None for _ in book[0]]
        self.missed = False
        for number, part in enumerate(self.parts):
            if not self.missed:
                self.narrow(number, part)

    def program(self):
        """The program as it is now; its end is what was put last."""
        return (tuple([part[0] for part in self.parts]), tuple(self.weave.rows))

    def one_start(self, sort, row):
        """A row for one sort, and none for all others."""
        return [row if other == sort else None for other in range(len(self.answers))]

    def merged(self, tables, base, values):
        """How two values of a sort grow to one value of it, and to which; None if no two do."""
        lot = sorted(set(values))
        for one, other in lots_below(len(lot), 2):
            growth = grown_sorts(tables, self.one_start(base, (lot[one], lot[other])), False)
            goals = [row for row in growth.found[base] if is_alike(row)]
            if goals:
                return (growth, (base, goals[0]))
        return None

    def narrow(self, number, part):
        """Narrows the input of a part; the end is missed if it comes to one value."""
        tables = [table for table in self.tables if all([sort in part for sort in [table.made, *table.sorts]])]
        base = part[0]
        spot = number
        values = tuple(range(self.book[0][base]))
        while True:
            step = self.merged(tables, base, values)
            if step is None:
                break
            growth, goal = step
            spot = self.weave.put_grown(growth, {growth.order[0]: spot}, goal)
            values = whole_row(growth, {growth.order[0]: values}, goal)
        self.missed = is_alike(values)
        lot = sorted(set(values))
        # Where a part reaches no other one, programs open there lead any two of the values to unlike ones.
        few = lot if len(sorts_reached(self.book)[base]) > len(part) else lot[:2]
        if not self.missed:
            self.spread([table for table in tables if len(table.sorts) == 1], base, spot, tuple(few))

    def spread(self, tables, base, spot, values):
        """Leads the values of a sort to all sorts of its part."""
        growth = grown_sorts(tables, self.one_start(base, values), False)
        for sort, rows in enumerate(growth.found):
            if rows:
                self.answers[sort] = rows[0]
                self.spots[sort] = self.weave.put_grown(growth, {growth.order[0]: spot}, (sort, rows[0]))

    def runs(self):
        """All runs in which each part has any of its values."""
        choices = all_rows([list(range(len(self.answers[part[0]]))) for part in self.parts])
        found = []
        for choice in choices:
            run = [None for _ in self.answers]
            for part, at in zip(self.parts, choice):
                for sort in part:
                    run[sort] = self.answers[sort][at]
            found.append(tuple(run))
        return found


def start_rows(runs):
    """The rows of the sorts' own values in some runs."""
    return [tuple([run[sort] for run in runs]) for sort in range(len(runs[0]))]


def paper_of(book):
    """Some kept rows of a book that is right, or a program whose end is missed."""
    narrowed = Narrowed(book)
    if narrowed.missed:
        return ("missed", narrowed.program())
    runs = narrowed.runs()
    starts = start_rows(runs)
    growth = grown_sorts(narrowed.tables, starts, True)
    if growth.alike is None:
        return ("rows", tuple(runs), tuple([tuple(sorted(rows)) for rows in growth.found]))
    spots = {(sort, row): narrowed.spots[sort] for sort, row in enumerate(starts)}
    narrowed.weave.put_grown(growth, spots, growth.alike)
    return ("missed", narrowed.program())


def sorted_paper(book):
    """Some kept rows, or, if there are none, some program whose end is open and has one value."""
    return paper_of(need_sorted(book))


def is_row_lot(size, many, value):
    """Whether any value is an ascending tuple of rows of so many values, none of one value throughout."""
    if not isinstance(value, tuple):
        return False
    for at, row in enumerate(value):
        if not is_tuple_of(many, row) or not all([is_below(size, one) for one in row]) or is_alike(row):
            return False
        if at > 0 and row <= value[at - 1]:
            return False
    return True


def are_runs(sizes, value):
    """Whether any value is a tuple of one run or more, each a tuple of a value for each sort."""
    if not isinstance(value, tuple) or len(value) == 0:
        return False
    for run in value:
        if not is_tuple_of(len(sizes), run) or not all([is_below(size, one) for size, one in zip(sizes, run)]):
            return False
    return True


def are_kept(book, runs, lots):
    """Whether any values are runs and lots of rows that are kept over them."""
    sizes = book[0]
    if not are_runs(sizes, runs) or not is_tuple_of(len(sizes), lots):
        return False
    for size, lot, start in zip(sizes, lots, start_rows(runs)):
        if not is_row_lot(size, len(runs), lot) or start not in lot:
            return False
    known = [{row: True for row in lot} for lot in lots]
    for table in sorted_tables(book):
        for rows in all_rows([lots[sort] for sort in table.sorts]):
            if answered(table.answers, table.sizes, rows) not in known[table.made]:
                return False
    return True


def is_missed(book, program):
    """Whether any value is a program whose end is open and has one value, whatever values its inputs have."""
    if program_fault(book, program) is not None or fold_sorted(book, program)[-1] is not None:
        return False
    runs = all_rows([list(range(book[0][sort])) for sort in program[0]])
    return is_alike([run_sorted(book, program, run)[-1] for run in runs])


def sorted_holds(book, value):
    """Whether any value is some kept rows, or some program whose end is missed."""
    need_sorted(book)
    if is_tuple_of(3, value):
        return value[0] == "rows" and are_kept(book, value[1], value[2])
    return is_tuple_of(2, value) and value[0] == "missed" and is_missed(book, value[1])


def runs_alike(tables, runs, lot):
    """Runs, these among them, over which some open row has one value; None if rows are kept over these."""
    starts = start_rows([runs[at] for at in lot])
    growth = grown_sorts(tables, starts, True)
    if growth.alike is None:
        return None
    wholes = {(sort, row): whole for sort, (row, whole) in enumerate(zip(starts, start_rows(runs)))}
    whole = whole_row(growth, wholes, growth.alike)
    return [at for at, value in enumerate(whole) if value == whole[lot[0]]]


def fewest_joint(book):
    """The first of the lots of the fewest runs over which rows are kept; None if there are none."""
    need_sorted(book)
    if paper_of(book)[0] == "missed":
        return None
    tables = sorted_tables(book)
    runs = all_rows([list(range(size)) for size in book[0]])
    barred = []
    for length in range(1, len(runs) + 1):
        for lot in lots_below(len(runs), length):
            # What is not kept over some runs is not over fewer of them.
            if any([all([at in others for at in lot]) for others in barred]):
                continue
            alike = runs_alike(tables, runs, lot)
            if alike is None:
                return tuple([runs[at] for at in lot])
            barred.append(alike)
    return None
