"""Cut programs, passes over them, and the plain form in which they all end."""

from foldsall.common import (all_rows, answered, held_answers, is_alike, is_below, is_row_of, is_sequence,
                             is_tuple_of, is_value_list)
from foldsall.errors import InvalidCut, InvalidIndex, InvalidPasses, Refused
from foldsall.programs import is_plain, need_program
from foldsall.tables import hung_in, need_book


PASSES = ("fold", "thin", "alike", "strike")


def is_reading(size, inputs, lines, value):
    """Whether any value is a reading, behind so many inputs and lines."""
    if not is_tuple_of(2, value):
        return False
    word, number = value
    if word == "in":
        return is_below(inputs, number)
    return is_below(lines, number) if word == "line" else word == "value" and is_below(size, number)


def is_line(book, inputs, lines, value):
    """Whether any value is a line of a cut program, behind so many inputs and lines."""
    size, operations = book
    if not is_tuple_of(2, value) or not is_below(len(operations), value[0]):
        return False
    if not is_tuple_of(operations[value[0]][0], value[1]):
        return False
    return all([is_reading(size, inputs, lines, reading) for reading in value[1]])


def cut_fault(book, value):
    """What is wrong with any value as a cut program, as its error tells; None if nothing is."""
    if not is_tuple_of(3, value):
        return -1
    lists, lines, ends = value
    if not isinstance(lists, tuple):
        return 0
    if not all([isinstance(values, tuple) and is_value_list(book[0], values) for values in lists]):
        return 0
    if not isinstance(lines, tuple):
        return 1
    if not all([is_line(book, len(lists), at, line) for at, line in enumerate(lines)]):
        return 1
    if not isinstance(ends, tuple):
        return 2
    return None if all([is_reading(book[0], len(lists), len(lines), end) for end in ends]) else 2


def need_cut(book, value):
    """A cut program over a book that is right."""
    fault = cut_fault(book, value)
    if fault is not None:
        raise InvalidCut(fault)
    return value


def cut_of(program):
    """A straight program that is right, cut."""
    readings = [("in", number) for number in range(len(program[0]))]
    lines = []
    for row in program[1]:
        if row[0] == "told":
            readings.append(("value", row[1]))
        else:
            readings.append(("line", len(lines)))
            lines.append((row[1], tuple([readings[number] for number in row[2]])))
    return (program[0], tuple(lines), tuple([readings[number] for number in program[2]]))


def cut_program(book, program):
    """A straight program, cut."""
    program = need_program(book, program)
    if not is_plain(program):
        raise Refused("straight")
    return cut_of(program)


def all_readings(cut):
    """All readings of lines and ends."""
    return [reading for line in cut[1] for reading in line[1]] + list(cut[2])


def whole_of(cut):
    """The straight program of a cut one that is right."""
    lists, lines, ends = cut
    told = sorted({number for word, number in all_readings(cut) if word == "value"})
    spots = {("in", number): number for number in range(len(lists))}
    for at, value in enumerate(told):
        spots[("value", value)] = len(lists) + at
    for at in range(len(lines)):
        spots[("line", at)] = len(lists) + len(told) + at
    rows = [("told", value) for value in told]
    rows.extend([("of", number, tuple([spots[reading] for reading in readings])) for number, readings in lines])
    return (lists, tuple(rows), tuple([spots[end] for end in ends]))


def whole_program(book, cut):
    """A cut program with the values that it reads told first."""
    return whole_of(need_cut(need_book(book), cut))


class Told:
    """What folding tells of the readings of a cut program that is right."""

    def __init__(self, book, cut):
        self.inputs = [values[0] if len(values) == 1 else None for values in cut[0]]
        self.lines = []
        for number, readings in cut[1]:
            places, answers = book[1][number]
            made = held_answers(answers, [book[0]] * places, self.held(readings))
            self.lines.append(made[0] if is_alike(made) else None)

    def value_of(self, reading):
        """The value of a reading; None if it is open."""
        word, number = reading
        if word == "in":
            return self.inputs[number]
        return self.lines[number] if word == "line" else number

    def held(self, readings):
        """For each reading its value or None."""
        return tuple([self.value_of(reading) for reading in readings])

    def anew(self, readings):
        """Readings, those that are told read as their values."""
        return tuple([reading if value is None else ("value", value)
                      for reading, value in zip(readings, self.held(readings))])


def told_lines(book, cut):
    """For each line its folded value, or None."""
    book = need_book(book)
    return tuple(Told(book, need_cut(book, cut)).lines)


def live_in(book, number, held):
    """The live places of an operation, held so, ascending."""
    size, operations = book
    places, answers = operations[number]
    left = [place for place in range(places) if held[place] is None]
    hung = hung_in(size, len(left), held_answers(answers, [size] * places, held))
    return tuple([left[at] for at in hung])


def live_places(book, operation, held):
    """The places of an operation that are not held and make a difference, ascending."""
    book = need_book(book)
    if not is_below(len(book[1]), operation):
        raise InvalidIndex(0)
    if not is_row_of(book[1][operation][0], held):
        raise InvalidIndex(1)
    if not all([value is None or is_below(book[0], value) for value in held]):
        raise InvalidIndex(1)
    return live_in(book, operation, held)


def folded(book, cut):
    """What folds is read as its value."""
    lists, lines, ends = cut
    told = Told(book, cut)
    lines = tuple([(number, told.anew(readings)) for number, readings in lines])
    return (lists, lines, told.anew(ends))


def thinned(book, cut):
    """Places that read nothing told and are not live read 0."""
    lists, lines, ends = cut
    told = Told(book, cut)
    thin = []
    for number, readings in lines:
        held = told.held(readings)
        live = live_in(book, number, held)
        now = [("value", 0) if held[place] is None and place not in live else reading
               for place, reading in enumerate(readings)]
        thin.append((number, tuple(now)))
    return (lists, tuple(thin), ends)


def read_anew(names, readings):
    """Readings of the lines that stand for those that were read."""
    return tuple([("line", names[number]) if word == "line" else (word, number) for word, number in readings])


def likened(cut):
    """What reads a line reads the first one that is as this one."""
    lists, lines, ends = cut
    first = {}
    names = []
    alike = []
    for at, (number, readings) in enumerate(lines):
        line = (number, read_anew(names, readings))
        names.append(first.setdefault(line, at))
        alike.append(line)
    return (lists, tuple(alike), read_anew(names, ends))


def struck(cut):
    """Lines that no end reads, nor a line that stays, are gone."""
    lists, lines, ends = cut
    read = {number: True for word, number in ends if word == "line"}
    for at in reversed(range(len(lines))):
        if at in read:
            for word, number in lines[at][1]:
                if word == "line":
                    read[number] = True
    names = {}
    left = []
    for at, (number, readings) in enumerate(lines):
        if at in read:
            names[at] = len(left)
            left.append((number, read_anew(names, readings)))
    return (lists, tuple(left), read_anew(names, ends))


def behind_pass(book, cut, word):
    """A cut program behind a pass."""
    if word == "fold":
        return folded(book, cut)
    if word == "thin":
        return thinned(book, cut)
    return likened(cut) if word == "alike" else struck(cut)


def passed(book, cut, words):
    """A cut program behind passes of these words."""
    book = need_book(book)
    cut = need_cut(book, cut)
    if not is_sequence(words):
        raise InvalidPasses(-1)
    for at, word in enumerate(words):
        if not isinstance(word, str) or word not in PASSES:
            raise InvalidPasses(at)
    for word in words:
        cut = behind_pass(book, cut, word)
    return cut


def line_levels(lines):
    """For each line one above the greatest level of the lines that it reads."""
    levels = []
    for _, readings in lines:
        levels.append(1 + max([levels[number] for word, number in readings if word == "line"], default=0))
    return levels


def by_levels(cut):
    """A cut program without alike lines, its lines by levels, those of one level by what they are."""
    lists, lines, ends = cut
    levels = line_levels(lines)
    names = [None for _ in lines]
    ordered = []
    for level in range(1, max(levels, default=0) + 1):
        # What a line of a level reads stands by now: so it is known what the line is.
        now = [((number, read_anew(names, readings)), at)
               for at, (number, readings) in enumerate(lines) if levels[at] == level]
        for line, at in sorted(now):
            names[at] = len(ordered)
            ordered.append(line)
    return (lists, tuple(ordered), read_anew(names, ends))


def plain_of(book, cut):
    """The plain form of a cut program that is right."""
    while True:
        now = cut
        for word in PASSES:
            now = behind_pass(book, now, word)
        if now == cut:
            return by_levels(cut)
        cut = now


def plain_form(book, cut):
    """A cut program behind all passes until nothing changes, its lines by levels."""
    book = need_book(book)
    return plain_of(book, need_cut(book, cut))


def first_hanging(book):
    """The first operation that hangs on a place, and values told at the others where it does; None if none does."""
    size, operations = book
    for number, (places, answers) in enumerate(operations):
        for place in range(places):
            choices = [[None] if at == place else list(range(size)) for at in range(places)]
            for held in all_rows(choices):
                if not is_alike(held_answers(answers, [size] * places, held)):
                    return (number, held)
    return None


def missed_alike(book):
    """Some cut program with two lines that are alike in all runs and both stand; None if there is none."""
    book = need_book(book)
    size, operations = book
    hanging = first_hanging(book)
    if hanging is None:
        return None
    number, held = hanging
    step = held_answers(operations[number][1], [size] * len(held), held)
    rows = []
    lines = []
    row = tuple(range(size))
    # Put on itself an operation has the same answers again at some time, but each of its lines is another one.
    while row not in rows[:-1]:
        reading = ("in", 0) if len(lines) == 0 else ("line", len(lines) - 1)
        lines.append((number, tuple([reading if value is None else ("value", value) for value in held])))
        row = answered(step, [size], [row])
        rows.append(row)
    one = rows.index(row)
    other = len(rows) - 1
    return (((tuple(range(size)),), tuple(lines), (("line", one), ("line", other))), one, other)
