"""Shapes and programs: which programs fit, the shape of a program, and programs that miss something without a cut."""

from foldsall.common import power, product_of, value_rows
from foldsall.cuts import (ANY, DOWN, NONE, UP, Lenses, all_readings_of, bottoms_of, cut_paper, leading_to_some,
                           need_shape, need_shape_ends, need_shape_lot, reached_without, shape_count)
from foldsall.errors import InvalidSize, Refused
from foldsall.missed import need_rows
from foldsall.tables import need_book


def place_word(size, operation, place):
    """How the answers of an operation change as a place rises, all others held."""
    places, answers = operation
    step = power(size, places - 1 - place)
    lows = [spot for spot in range(len(answers)) if spot // step % size < size - 1]
    rises = any([answers[spot] < answers[spot + step] for spot in lows])
    falls = any([answers[spot] > answers[spot + step] for spot in lows])
    if rises:
        return ANY if falls else UP
    return DOWN if falls else NONE


def is_word_let(word, found):
    """Whether a place of a shape lets answers change so."""
    return word == ANY or found == NONE or found == word


def does_row_fit(book, places, row):
    """Whether a row fits the places of a shape's row."""
    if len(places) == 0 or row[0] == "told":
        return len(places) == 0 and row[0] == "told"
    if row[2] != tuple([number for number, _ in places]):
        return False
    operation = book[1][row[1]]
    return all([is_word_let(word, place_word(book[0], operation, at)) for at, (_, word) in enumerate(places)])


def fits_shape(shape, book, program):
    """Whether a program without forks and loops fits a shape."""
    inputs, rows = need_shape(shape)
    program = need_rows(book, program)
    book = need_book(book)
    if len(program[0]) != inputs or len(program[1]) != len(rows):
        return False
    return all([does_row_fit(book, places, row) for places, row in zip(rows, program[1])])


def shape_of(book, program):
    """The shape of a program that is right."""
    rows = []
    for row in program[1]:
        reads = () if row[0] == "told" else row[2]
        rows.append(tuple([(read, place_word(book[0], book[1][row[1]], at)) for at, read in enumerate(reads)]))
    return (len(program[0]), tuple(rows))


def program_shape(book, program):
    """The shape of a program, at each place the first word that fits of none, up or down, and any."""
    program = need_rows(book, program)
    return shape_of(need_book(book), program)


def told_cut(book, program):
    """Some cut of the fewest registers of a program's shape, and as many ways."""
    program = need_rows(book, program)
    book = need_book(book)
    return cut_paper(shape_of(book, program), book[0], tuple(sorted(set(program[2]))))


def way_to(readings, begins, goals, allowed):
    """Some (register, steps): a way from one of some registers to one of others, over those allowed alone.

    Steps are readings (reader, place, word).
    """
    found = {number: (number, ()) for number in begins if number in allowed}
    for number in range(len(readings)):
        if number in found:
            begin, steps = found[number]
            if number in goals:
                return (begin, steps)
            for step in readings[number]:
                if step[0] in allowed:
                    found.setdefault(step[0], (begin, (*steps, step)))
    return None


def step_signs(steps):
    """For each step -1 if it turns what it reads, else 1."""
    return [-1 if word == DOWN else 1 for _, _, word in steps]


def lens_signs(size, steps, others):
    """Signs for the steps of two ways, of two values such that one is odd and the other even."""
    signs = step_signs(steps)
    turned = step_signs(others)
    if size == 2 and product_of(signs) == product_of(turned):
        words = [step[2] for step in (*steps, *others)]
        at = words.index(ANY)
        if at < len(signs):
            signs[at] = -1
        else:
            turned[at - len(signs)] = -1
    return (signs, turned)


class Lying:
    """Writes a program of a shape that misses something, and the grounded row that has it.

    An input is handed on to a bottom, split into two ways that go on with unlike values in the row, but not in any
    run, until they meet; what that makes is handed on to an end. All else is told 0, or always 0.
    """

    def __init__(self, shape, size):
        self.shape = shape
        self.size = size
        self.tables = {}
        self.kept = {number: (0,) for number in range(shape_count(shape))}

    def turned(self, value, sign):
        """A value, turned about among all if the sign is -1."""
        return value if sign == 1 else self.size - 1 - value

    def rows_at(self, number):
        """All rows of values at the places of a register's row."""
        return value_rows(self.size, len(self.shape[1][number - self.shape[0]]))

    def hand_on(self, steps, signs, values):
        """Writes rows that hand on values by the steps of a way; tells what the last one keeps."""
        for (reader, place, _), sign in zip(steps, signs):
            self.tables[reader] = tuple([self.turned(row[place], sign) for row in self.rows_at(reader)])
            values = tuple(sorted([self.turned(value, sign) for value in values]))
            self.kept[reader] = values
        return values

    def meet(self, steps, signs):
        """Writes the row in which two ways meet, by their last steps: what it makes rises with both."""
        reader = steps[0][0]
        made = []
        for row in self.rows_at(reader):
            one, other = [self.turned(row[step[1]], sign) for step, sign in zip(steps, signs)]
            made.append(min(one, other) if self.size == 2 else min(one, 1) + min(other, 1))
        self.tables[reader] = tuple(made)

    def part(self, lens):
        """Writes the two ways of a lens; tells where they meet, and the value that it has in no run."""
        steps = [[(reader, place, self.shape[1][reader - self.shape[0]][place][1]) for reader, place in way]
                 for way in lens]
        signs = lens_signs(self.size, steps[0], steps[1])
        products = [product_of(row) for row in signs]
        top = self.size - 1
        if products[0] == products[1]:
            begins = (0, top)
        else:
            # Both ways come to the greatest value: in no run they do.
            begins = tuple([top if product == 1 else 0 for product in products])
        for way, row, begin in zip(steps, signs, begins):
            self.hand_on(way[:-1], row[:-1], (begin,))
        self.meet([way[-1] for way in steps], [row[-1] for row in signs])
        value = 2 if self.size > 2 and products[0] != products[1] else 1
        self.kept[steps[0][-1][0]] = (value,)
        return (steps[0][-1][0], value)

    def program(self, ends):
        """The book and the program of these ends."""
        inputs, shape_rows = self.shape
        operations = []
        rows = []
        for at, places in enumerate(shape_rows):
            if len(places) == 0:
                rows.append(("told", 0))
            else:
                rows.append(("of", len(operations), tuple([number for number, _ in places])))
                made = self.tables.get(inputs + at, (0,) * power(self.size, len(places)))
                operations.append((len(places), made))
        lists = ((0, self.size - 1),) * inputs
        return ((self.size, tuple(operations)), (lists, tuple(rows), ends))


def lying_program(shape, size, ends, lot):
    """Some book and program of a shape, and a miss with one value at each register of a lot that is no cut."""
    shape, ends = need_shape_ends(shape, size, ends)
    lot = need_shape_lot(shape, lot)
    if len([row for row in shape[1] if len(row) > 0]) > 8:
        raise InvalidSize("rows")
    readings = all_readings_of(shape)
    bottoms = bottoms_of(shape, size, ends)
    way = way_to(readings, list(range(shape[0])), bottoms, reached_without(shape, readings, lot))
    if way is None:
        raise Refused("lot")
    begin, steps = way
    lying = Lying(shape, size)
    lying.kept[begin] = (0, size - 1)
    lying.hand_on(steps, step_signs(steps), lying.kept[begin])
    bottom = steps[-1][0] if steps else begin
    lens = Lenses(readings, bottom).lens(size, leading_to_some(readings, ends))
    top, value = lying.part(lens)
    _, further = way_to(readings, [top], ends, list(range(len(readings))))
    value = lying.hand_on(further, step_signs(further), (value,))[0]
    end = further[-1][0] if further else top
    row = tuple([lying.kept[number] for number in range(len(readings))])
    return (*lying.program(ends), (end, value, row))
