"""Books and programs as texts, with the fewest lines that give a row a name."""

from foldsall.errors import InvalidProgram
from foldsall.levels import need_key, tree_text
from foldsall.programs import all_count, all_reads, all_sources, need_program, program_fault, rows_count
from foldsall.tables import need_book


def row_starts(rows, number):
    """For each row the first register that it makes, or that is made next; the rows' registers begin at a number."""
    starts = []
    for row in rows:
        starts.append(number)
        number += rows_count([row])
    return starts


def fork_starts(row, number):
    """Where the registers of a fork's second rows begin, and those of its pairs."""
    begin = number + rows_count(row[2])
    return (begin, begin + rows_count(row[3]))


class Inlining:
    """Which rows are written within an expression: from the last row on, those that stand just ahead of it.

    Where a row is not the one just ahead, it has a name; else a name would be a line more, which then stands
    ahead of what comes before: so no text has fewer lines.
    """

    def __init__(self, program):
        self.reads = [0 for _ in range(all_count(program))]
        for number in [*all_reads(program[1]), *program[2]]:
            self.reads[number] += 1
        self.within = {}
        self.go(program[1], len(program[0]), program[2])

    def go(self, rows, number, tail):
        """Goes through rows, the last one first; the line behind them has expressions of the tail's registers."""
        starts = row_starts(rows, number)
        at = self.take_in(rows, starts, len(rows), tail)
        while at > 0:
            at -= 1
            row = rows[at]
            begin = starts[at]
            reads = []
            if row[0] == "of":
                reads = row[2]
            elif row[0] == "fork":
                self.go(row[2], begin, [one for one, _ in row[4]])
                self.go(row[3], fork_starts(row, begin)[0], [other for _, other in row[4]])
                reads = [] if row[1] is None else [row[1][0]]
            elif row[0] == "loop":
                self.go(row[3], begin + len(row[2]), row[4])
                reads = row[2]
            at = self.take_in(rows, starts, at, reads)

    def take_in(self, rows, starts, at, numbers):
        """Writes rows within expressions of these registers, behind so many rows; tells how many rows are left."""
        waiting = list(numbers)
        while waiting:
            number = waiting.pop()
            row = rows[at - 1] if at > 0 else ("none",)
            if row[0] not in ("told", "of") or starts[at - 1] != number or self.reads[number] != 1:
                continue
            at -= 1
            self.within[number] = True
            if row[0] == "of":
                waiting.extend(row[2])
        return at


def named_of(program):
    """The registers of a program that is right that have a line of their own, ascending."""
    within = Inlining(program).within
    found = []
    for number, source in enumerate(all_sources(program)):
        if source[0] in ("told", "of") and number not in within:
            found.append(number)
    return tuple(found)


def named_registers(book, program):
    """The registers that each text of a program names in a line of their own, ascending."""
    return named_of(need_program(book, program))


def name_of(number):
    """The name of a register."""
    return f"r{number}"


class Writing:
    """The lines of a program that is right."""

    def __init__(self, book, key, program):
        self.book = book
        self.key = key
        self.within = Inlining(program).within
        self.trees = {}
        self.lines = []
        for number, values in enumerate(program[0]):
            told = " : " + " ".join([str(value) for value in values]) if len(values) < book[0] else ""
            self.lines.append(f"in {name_of(number)}{told}")
        self.write(program[1], len(program[0]), 0)
        self.put(0, "out", program[2])

    def expression(self, number):
        """The text of a register where it is read."""
        return tree_text(self.book, self.key, self.tree(number))

    def tree(self, number):
        """The tree of a register where it is read."""
        return self.trees.get(number, ("name", name_of(number)))

    def put(self, deep, word, numbers):
        """Puts a line of a word and some expressions, so many blanks ahead."""
        told = ", ".join([self.expression(number) for number in numbers])
        self.lines.append(" " * deep + word + (" " + told if numbers else ""))

    def write(self, rows, number, deep):
        """Writes rows whose registers begin at a number, within so many forks and loops."""
        for row, begin in zip(rows, row_starts(rows, number)):
            if row[0] == "fork":
                self.write_fork(row, begin, deep)
            elif row[0] == "loop":
                self.write_loop(row, begin, deep)
            else:
                self.write_row(row, begin, deep)

    def write_row(self, row, number, deep):
        """Writes a row of a told value or an operation, or keeps its tree for where it is read."""
        if row[0] == "told":
            tree = ("value", row[1])
        else:
            tree = ("of", row[1], tuple([self.tree(read) for read in row[2]]))
        if number in self.within:
            self.trees[number] = tree
        else:
            self.lines.append(" " * deep + f"{name_of(number)} = {tree_text(self.book, self.key, tree)}")

    def write_fork(self, row, number, deep):
        """Writes a fork."""
        _, test, firsts, seconds, pairs = row
        begin, pair = fork_starts(row, number)
        head = "either" if test is None else f"if {self.expression(test[0])} = {test[1]}"
        self.lines.append(" " * deep + head)
        self.write(firsts, number, deep + 1)
        if pairs:
            self.put(deep + 1, "give", [one for one, _ in pairs])
        self.lines.append(" " * deep + "else")
        self.write(seconds, begin, deep + 1)
        if pairs:
            self.put(deep + 1, "give", [other for _, other in pairs])
        names = ", ".join([name_of(pair + at) for at in range(len(pairs))])
        self.lines.append(" " * deep + "end" + (" " + names if pairs else ""))

    def write_loop(self, row, number, deep):
        """Writes a loop."""
        _, most, firsts, rows, agains = row
        told = "" if most is None else f" {most}"
        heads = [f"{name_of(number + at)} = {self.expression(first)}" for at, first in enumerate(firsts)]
        joined = ", ".join(heads)
        self.lines.append(" " * deep + f"loop{told} {joined}")
        self.write(rows, number + len(firsts), deep + 1)
        self.put(deep + 1, "again", agains)
        self.lines.append(" " * deep + "end")


def program_text(book, key, program):
    """The text of a program."""
    book = need_book(book)
    key = need_key(book, key)
    fault = program_fault(book, program)
    if fault is not None:
        raise InvalidProgram(fault)
    return "\n".join(Writing(book, key, program).lines)


def book_text(book, key):
    """The text of a book."""
    book = need_book(book)
    key = need_key(book, key)
    lines = [f"size {book[0]}"]
    for part, (places, answers) in zip(key, book[1]):
        head = f"{part} {places}" if isinstance(part, str) else f"{part[0]} {part[1]} {part[2]}"
        told = " ".join([str(answer) for answer in answers])
        lines.append(f"{head} : {told}")
    return "\n".join(lines)
