"""Kept sets of straight programs: read as trees, open rows as inputs, and folded rows told."""

from foldsall.common import is_below
from foldsall.errors import InvalidIndex, InvalidSize, Refused
from foldsall.folding import Keeping, folds_of, need_k
from foldsall.programs import all_count, all_sources, is_plain, need_program, rows_count
from foldsall.tables import need_book

MOST_IN_TREE = 400


def need_straight(book, program):
    """A straight program over a book."""
    program = need_program(book, program)
    if not is_plain(program):
        raise Refused("straight")
    return program


def need_number(book, program, number):
    """A straight program over a book; raises if it has no register of this number."""
    program = need_straight(book, program)
    if not is_below(all_count(program), number):
        raise InvalidIndex(-1)
    return program


def row_reads(program, number):
    """The registers that a register of a straight program reads."""
    at = number - len(program[0])
    return program[1][at][2] if at >= 0 and program[1][at][0] == "of" else ()


def readings_many(program, number):
    """For each register from how many ways it leads to this one."""
    many = [0 for _ in range(all_count(program))]
    many[number] = 1
    for at in reversed(range(number + 1)):
        for read in row_reads(program, at):
            many[read] += many[at]
    return many


def read_in_order(program, number):
    """The register and all that it reads, each reading by itself, behind what it reads, places from the first on."""
    found = []
    waiting = [number]
    while waiting:
        found.append(waiting.pop())
        waiting.extend(row_reads(program, found[-1]))
    return found[::-1]


def reading_tree(book, program, number):
    """The program that reads each register once and whose end is as this one; which input each of its inputs is."""
    program = need_number(book, program, number)
    if sum(readings_many(program, number)) > MOST_IN_TREE:
        raise InvalidSize("tree")
    order = read_in_order(program, number)
    inputs = tuple([at for at in order if at < len(program[0])])
    rows = []
    waiting = []
    used = 0
    for at in order:
        if at < len(program[0]):
            waiting.append(used)
            used += 1
            continue
        row = program[1][at - len(program[0])]
        if row[0] == "of":
            begin = len(waiting) - len(row[2])
            row = ("of", row[1], tuple(waiting[begin:]))
            del waiting[begin:]
        waiting.append(len(inputs) + len(rows))
        rows.append(row)
    return ((tuple([program[0][at] for at in inputs]), tuple(rows), (waiting[0],)), inputs)


def double_inputs(book, program, number):
    """The inputs from which two ways or more lead to a register, ascending."""
    program = need_number(book, program, number)
    many = readings_many(program, number)
    return tuple([at for at in range(len(program[0])) if many[at] >= 2])


def opened_program(book, program, k):
    """The program in which open rows are inputs of all values; for each register the one that it is there."""
    program = need_straight(book, program)
    need_k(k)
    book = need_book(book)
    kept = Keeping(book, all_sources(program), k).kept
    first = len(program[0])
    is_told_open = [k is not None and len(lot) > k for lot in kept]
    loose = [number for number in range(first, len(kept)) if is_told_open[number]]
    names = {number: number for number in range(first)}
    for at, number in enumerate(loose):
        names[number] = first + at
    rows = []
    for number in range(first, len(kept)):
        if not is_told_open[number]:
            names[number] = first + len(loose) + len(rows)
            row = program[1][number - first]
            if row[0] == "of":
                row = ("of", row[1], tuple([names[read] for read in row[2]]))
            rows.append(row)
    lists = tuple(kept[:first]) + (tuple(range(book[0])),) * len(loose)
    ends = tuple([names[end] for end in program[2]])
    return ((lists, tuple(rows), ends), tuple([names[number] for number in range(len(kept))]))


def told_rows(rows, number, folds):
    """Rows whose registers begin at a number, those that fold told their values."""
    told = []
    for row in rows:
        begin = number
        number += rows_count([row])
        if row[0] == "fork":
            firsts = told_rows(row[2], begin, folds)
            seconds = told_rows(row[3], begin + rows_count(row[2]), folds)
            row = ("fork", row[1], firsts, seconds, row[4])
        elif row[0] == "loop":
            row = ("loop", row[1], row[2], told_rows(row[3], begin + len(row[2]), folds), row[4])
        elif row[0] == "of" and folds[begin] is not None:
            row = ("told", folds[begin])
        told.append(row)
    return tuple(told)


def told_program(book, program):
    """The program in which each row of an operation that folds is told its value."""
    program = need_program(book, program)
    folds = folds_of(need_book(book), program)
    return (program[0], told_rows(program[1], len(program[0]), folds), program[2])
