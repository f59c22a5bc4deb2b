"""Code: what the compiler writes for a program, how it runs, and the fewest cells for the lines of a cut program."""

from foldsall.common import is_below, is_number, is_row_of, is_sequence, is_tuple_of, is_value_list, spot_in
from foldsall.errors import InvalidChoices, InvalidCode, InvalidValues
from foldsall.passes import need_cut
from foldsall.programs import all_count, need_program, rows_count
from foldsall.runs import ToldChoices
from foldsall.steps import barred_sides, told_at_once
from foldsall.tables import need_book


PARTS = {
    "put": ("cell", "value"),
    "do": ("cell", "operation", "readings"),
    "copy": ("cell", "reading"),
    "jump": ("place",),
    "test": ("cell", "value", "place"),
    "choose": ("place",),
    "turns": ("cell", "most"),
    "turn": ("cell", "place"),
    "tell": ("reading",),
}


class Compiler:
    """Writes the instructions of a program; what is told of a register is read as its value and not written.

    What nobody comes to is left out, if the code is to be short: no choice is asked for there.
    Places to jump to are marks at first, numbered as they are made; marks stand where they are told at last.
    """

    def __init__(self, program, told, is_short):
        self.told = told
        self.is_short = is_short
        self.cells = all_count(program)
        self.lines = []
        self.marks = []
        self.go(program[1], len(program[0]))
        for end in program[2]:
            self.lines.append(("tell", self.reading(end)))

    def code(self):
        """The instructions, places in the stead of marks."""
        found = []
        for line in self.lines:
            if line[0] in ("jump", "test", "choose", "turn"):
                line = (*line[:-1], self.marks[line[-1]])
            found.append(line)
        return tuple(found)

    def mark(self):
        """A new mark."""
        self.marks.append(None)
        return len(self.marks) - 1

    def put_mark(self, mark):
        """Lets a mark stand here."""
        self.marks[mark] = len(self.lines)

    def cell(self):
        """A further cell."""
        self.cells += 1
        return self.cells - 1

    def reading(self, number):
        """How a register is read."""
        value = self.told[number]
        return ("cell", number) if value is None else ("value", value)

    def go(self, rows, number):
        """Writes rows whose registers begin at a number."""
        for row in rows:
            if row[0] == "fork":
                self.go_fork(row, number)
            elif row[0] == "loop":
                self.go_loop(row, number)
            elif self.told[number] is None:
                self.go_line(row, number)
            number += rows_count([row])

    def go_line(self, row, number):
        """Writes a row of a told value or an operation."""
        if row[0] == "told":
            self.lines.append(("put", number, row[1]))
        else:
            self.lines.append(("do", number, row[1], tuple([self.reading(read) for read in row[2]])))

    def go_side(self, row, number, side):
        """Writes a side of a fork, and the pairs behind it."""
        _, _, firsts, seconds, pairs = row
        begins = (number, number + rows_count(firsts))
        self.go((firsts, seconds)[side], begins[side])
        behind = begins[1] + rows_count(seconds)
        for at, pair in enumerate(pairs):
            if self.told[behind + at] is None:
                self.lines.append(("copy", behind + at, self.reading(pair[side])))

    def go_fork(self, row, number):
        """Writes a fork: the one side, a jump behind the other one, the other side."""
        bars = barred_sides(row, self.told)
        if len(bars) == 1:
            self.go_side(row, number, 1 - bars[0])
            return
        other = self.mark()
        end = self.mark()
        if row[1] is None:
            self.lines.append(("choose", other))
        else:
            self.lines.append(("test", *row[1], other))
        later = 1 if row[1] is None else 0
        self.go_side(row, number, 1 - later)
        self.lines.append(("jump", end))
        self.put_mark(other)
        self.go_side(row, number, later)
        self.put_mark(end)

    def go_loop(self, row, number):
        """Writes a loop: a cell counts the turns that are left."""
        _, most, firsts, rows, agains = row
        counter = self.cell()
        self.put_heads(number, firsts)
        self.lines.append(("turns", counter, most))
        if most == 0 and self.is_short:
            return
        begin = self.mark()
        end = self.mark()
        self.put_mark(begin)
        self.lines.append(("turn", counter, end))
        self.go(rows, number + len(firsts))
        self.put_heads(number, agains)
        self.lines.append(("jump", begin))
        self.put_mark(end)

    def put_heads(self, number, reads):
        """Writes what heads are, all at once: what is read later than written is kept in a further cell."""
        heads = []
        copies = []
        for at, read in enumerate(reads):
            head = number + at
            if self.told[head] is not None:
                continue
            reading = self.reading(read)
            if reading[0] == "cell" and reading[1] in heads:
                kept = self.cell()
                self.lines.append(("copy", kept, reading))
                reading = ("cell", kept)
            heads.append(head)
            copies.append(("copy", head, reading))
        self.lines.extend(copies)


def plain_code(book, program):
    """Some code of a program in which each register is written."""
    program = need_program(book, program)
    return (program[0], Compiler(program, [None] * all_count(program), False).code())


def write_code(book, program):
    """Some code of a program in which nothing is reckoned that is told at once."""
    told = told_at_once(book, program)
    return (program[0], Compiler(program, told, True).code())


def is_cell_reading(book, value):
    """Whether any value is a reading of a cell or a value."""
    if not is_tuple_of(2, value) or not isinstance(value[0], str):
        return False
    return is_number(value[1]) if value[0] == "cell" else value[0] == "value" and is_below(book[0], value[1])


def is_part(book, many, word, value):
    """Whether any value is a part of an instruction, of a code of so many."""
    if word == "cell":
        return is_number(value)
    if word == "value":
        return is_below(book[0], value)
    if word == "operation":
        return is_below(len(book[1]), value)
    if word == "place":
        return is_below(many + 1, value)
    if word == "most":
        return value is None or is_number(value)
    if word == "reading":
        return is_cell_reading(book, value)
    return isinstance(value, tuple) and all([is_cell_reading(book, reading) for reading in value])


def is_instruction(book, many, value):
    """Whether any value is an instruction of a code of so many."""
    if not isinstance(value, tuple) or len(value) == 0 or not isinstance(value[0], str) or value[0] not in PARTS:
        return False
    parts = PARTS[value[0]]
    if len(value) != len(parts) + 1:
        return False
    if not all([is_part(book, many, word, part) for word, part in zip(parts, value[1:])]):
        return False
    return value[0] != "do" or len(value[3]) == book[1][value[2]][0]


def need_code(book, value):
    """Raises if any value is no code."""
    if not is_tuple_of(2, value) or not isinstance(value[0], tuple) or not isinstance(value[1], tuple):
        raise InvalidCode(-1)
    if not all([isinstance(values, tuple) and is_value_list(book[0], values) for values in value[0]]):
        raise InvalidCode(-1)
    for at, instruction in enumerate(value[1]):
        if not is_instruction(book, len(value[1]), instruction):
            raise InvalidCode(at)


class Machine:
    """Runs a code: cells, each 0 at first but those of inputs, and what is told."""

    def __init__(self, book, values, guide):
        self.size, self.operations = book
        self.cells = {number: value for number, value in enumerate(values)}
        self.guide = guide
        self.ends = []

    def read(self, reading):
        """The value of a reading."""
        word, number = reading
        return self.cells.get(number, 0) if word == "cell" else number

    def run(self, instructions):
        """Does instructions till one goes on behind all."""
        at = 0
        while at < len(instructions):
            line = instructions[at]
            place = line[-1] if self.does_go(line) else None
            at = at + 1 if place is None else place

    def does_go(self, line):
        """Whether an instruction goes on at its place; does what it does."""
        word = line[0]
        if word == "jump":
            return True
        if word == "test":
            return self.cells.get(line[1], 0) == line[2]
        if word == "choose":
            return self.guide.take_side() == 1
        if word == "turn":
            left = self.cells.get(line[1], 0)
            self.cells[line[1]] = max(left - 1, 0)
            return left == 0
        if word == "tell":
            self.ends.append(self.read(line[1]))
        else:
            self.cells[line[1]] = self.written(line)
        return False

    def written(self, line):
        """What an instruction writes into its cell."""
        word = line[0]
        if word == "put":
            return line[2]
        if word == "copy":
            return self.read(line[2])
        if word == "turns":
            return self.guide.begin_loop(line[2])
        reads = [self.read(reading) for reading in line[3]]
        return self.operations[line[2]][1][spot_in([self.size] * len(reads), reads)]


def run_code(book, code, values, choices):
    """The ends that a code tells in a run."""
    book = need_book(book)
    need_code(book, code)
    if not is_row_of(len(code[0]), values):
        raise InvalidValues(-1)
    for at, value in enumerate(values):
        if not is_number(value) or value not in code[0][at]:
            raise InvalidValues(at)
    if not is_sequence(choices):
        raise InvalidChoices(-1)
    machine = Machine(book, values, ToldChoices(choices))
    machine.run(code[1])
    if machine.guide.used < len(choices):
        raise InvalidChoices(machine.guide.used)
    return tuple(machine.ends)


def last_reads(cut):
    """For each line the last one that reads it; how many lines there are if it is told; itself if nothing reads it."""
    last = list(range(len(cut[1])))
    for at, (_, readings) in enumerate(cut[1]):
        for word, number in readings:
            if word == "line":
                last[number] = at
    for word, number in cut[2]:
        if word == "line":
            last[number] = len(cut[1])
    return last


def standing(last, at):
    """The lines that stand behind a line: those ahead of it that are read later or told, and it too."""
    return [number for number in range(at) if last[number] > at] + [at]


def most_standing(last):
    """How many lines stand behind one at most."""
    return max([len(standing(last, at)) for at in range(len(last))], default=0)


def fewest_cells(book, cut):
    """The fewest cells for the lines, some such, and the first line behind which so many stand."""
    book = need_book(book)
    last = last_reads(need_cut(book, cut))
    many = most_standing(last)
    cells = []
    for at in range(len(last)):
        taken = [cells[number] for number in standing(last, at)[:-1]]
        cells.append([cell for cell in range(many) if cell not in taken][0])
    moments = [at for at in range(len(last)) if len(standing(last, at)) == many]
    return (many, tuple(cells), moments[0] if moments else None)


def are_apart(last, cells):
    """Whether no line is written into a cell while a line in it is read later or told."""
    for at, cell in enumerate(cells):
        if cell in [cells[number] for number in standing(last, at)[:-1]]:
            return False
    return True


def fewest_hold(book, cut, value):
    """Whether any value is the fewest cells, such ones, and a line behind which so many stand."""
    book = need_book(book)
    last = last_reads(need_cut(book, cut))
    if not is_tuple_of(3, value) or not is_number(value[0]) or not is_tuple_of(len(last), value[1]):
        return False
    many, cells, moment = value
    if many != most_standing(last) or not all([is_below(many, cell) for cell in cells]):
        return False
    if len(last) == 0:
        return moment is None
    return is_below(len(last), moment) and len(standing(last, moment)) == many and are_apart(last, cells)
