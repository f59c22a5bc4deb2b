"""Programs: inputs, rows with forks and loops, ends; put behind one another, and unrolled."""

from foldsall.common import is_below, is_number, is_tuple_of, is_value_list, spot_in
from foldsall.errors import InvalidProgram, InvalidSize
from foldsall.tables import need_book


class Check:
    """Goes through any values as the rows of a program, and counts the registers that they make."""

    def __init__(self, book, many):
        self.size, self.operations = book
        self.many = many

    def is_read(self, seen, number):
        """Whether any value is a register that is seen."""
        return is_number(number) and number in seen

    def make(self, seen):
        """Makes a register, which is seen here from now on."""
        seen[self.many] = True
        self.many += 1

    def are_read(self, seen, numbers):
        """Whether any value is a tuple of registers that are seen."""
        return isinstance(numbers, tuple) and all([self.is_read(seen, number) for number in numbers])

    def are_rows(self, seen, rows):
        """Whether any value is rows that read what is seen; what they make is seen then."""
        return isinstance(rows, tuple) and all([self.is_row(seen, row) for row in rows])

    def is_row(self, seen, row):
        """Whether any value is a row that reads what is seen; what it makes is seen then."""
        if not isinstance(row, tuple) or len(row) == 0:
            return False
        if row[0] == "fork" and len(row) == 5:
            return self.is_fork(seen, row)
        if row[0] == "loop" and len(row) == 5:
            return self.is_loop(seen, row)
        if row[0] == "told" and len(row) == 2:
            fits = is_below(self.size, row[1])
        else:
            fits = row[0] == "of" and len(row) == 3 and self.is_line(seen, row[1], row[2])
        if fits:
            self.make(seen)
        return fits

    def is_line(self, seen, number, reads):
        """Whether an operation of this number reads these registers."""
        return (is_below(len(self.operations), number) and is_tuple_of(self.operations[number][0], reads)
                and self.are_read(seen, reads))

    def is_test(self, seen, test):
        """Whether any value is what a fork looks at."""
        return test is None or (is_tuple_of(2, test) and self.is_read(seen, test[0]) and is_below(self.size, test[1]))

    def is_fork(self, seen, row):
        """Whether a row is a fork; its pairs are seen then."""
        _, test, firsts, seconds, pairs = row
        one = {number: True for number in seen}
        other = {number: True for number in seen}
        if not self.is_test(seen, test) or not self.are_rows(one, firsts) or not self.are_rows(other, seconds):
            return False
        if not isinstance(pairs, tuple):
            return False
        for pair in pairs:
            if not is_tuple_of(2, pair) or not self.is_read(one, pair[0]) or not self.is_read(other, pair[1]):
                return False
        for _ in pairs:
            self.make(seen)
        return True

    def is_loop(self, seen, row):
        """Whether a row is a loop; its heads are seen then."""
        _, most, firsts, rows, agains = row
        if most is not None and not is_number(most):
            return False
        if not self.are_read(seen, firsts) or len(firsts) == 0:
            return False
        for _ in firsts:
            self.make(seen)
        within = {number: True for number in seen}
        return self.are_rows(within, rows) and is_tuple_of(len(firsts), agains) and self.are_read(within, agains)


def program_fault(book, value):
    """What is wrong with any value as a program over a book, as its error tells; None if nothing is."""
    if not is_tuple_of(3, value):
        return -1
    inputs, rows, ends = value
    if not isinstance(inputs, tuple):
        return 0
    if not all([isinstance(values, tuple) and is_value_list(book[0], values) for values in inputs]):
        return 0
    check = Check(book, len(inputs))
    seen = {number: True for number in range(len(inputs))}
    if not check.are_rows(seen, rows):
        return 1
    return None if check.are_read(seen, ends) else 2


def need_program(book, value):
    """A program over a book."""
    fault = program_fault(need_book(book), value)
    if fault is not None:
        raise InvalidProgram(fault)
    return value


def rows_count(rows):
    """How many registers rows have."""
    many = 0
    for row in rows:
        if row[0] == "fork":
            many += rows_count(row[2]) + rows_count(row[3]) + len(row[4])
        elif row[0] == "loop":
            many += len(row[2]) + rows_count(row[3])
        else:
            many += 1
    return many


def all_count(program):
    """How many registers a program has that is right."""
    return len(program[0]) + rows_count(program[1])


def register_count(book, program):
    """How many registers a program has."""
    return all_count(need_program(book, program))


def is_plain(program):
    """Whether a program that is right has no fork and no loop."""
    return all([row[0] == "told" or row[0] == "of" for row in program[1]])


def is_straight(book, program):
    """Whether a program has no fork and no loop."""
    return is_plain(need_program(book, program))


def row_sources(rows):
    """For each register of rows what gives it."""
    sources = []
    for row in rows:
        if row[0] == "fork":
            sources.extend(row_sources(row[2]))
            sources.extend(row_sources(row[3]))
            sources.extend([("either", one, other) for one, other in row[4]])
        elif row[0] == "loop":
            sources.extend([("either", first, again) for first, again in zip(row[2], row[4])])
            sources.extend(row_sources(row[3]))
        else:
            sources.append(row)
    return sources


def all_sources(program):
    """For each register of a program that is right what gives it."""
    return tuple([("list", values) for values in program[0]] + row_sources(program[1]))


def register_sources(book, program):
    """For each register what gives it."""
    return all_sources(need_program(book, program))


def all_reads(rows):
    """All registers that rows read, and rows within them; as often as they are read."""
    reads = []
    for row in rows:
        if row[0] == "of":
            reads.extend(row[2])
        elif row[0] == "fork":
            reads.extend([] if row[1] is None else [row[1][0]])
            reads.extend(all_reads(row[2]) + all_reads(row[3]))
            reads.extend([number for pair in row[4] for number in pair])
        elif row[0] == "loop":
            reads.extend([*row[2], *all_reads(row[3]), *row[4]])
    return reads


def plain_values(book, program, values):
    """The values of all registers of a straight program that is right, in the run of these values."""
    size, operations = book
    known = list(values)
    for row in program[1]:
        if row[0] == "told":
            known.append(row[1])
        else:
            reads = [known[number] for number in row[2]]
            known.append(operations[row[1]][1][spot_in([size] * len(reads), reads)])
    return known


def moved_numbers(names, numbers):
    """The registers that stand for some."""
    return tuple([names[number] for number in numbers])


def moved_rows(names, rows):
    """Rows that read, for each register, the one that stands for it."""
    moved = []
    for row in rows:
        if row[0] == "of":
            row = ("of", row[1], moved_numbers(names, row[2]))
        elif row[0] == "fork":
            test = None if row[1] is None else (names[row[1][0]], row[1][1])
            pairs = tuple([moved_numbers(names, pair) for pair in row[4]])
            row = ("fork", test, moved_rows(names, row[2]), moved_rows(names, row[3]), pairs)
        elif row[0] == "loop":
            firsts = moved_numbers(names, row[2])
            row = ("loop", row[1], firsts, moved_rows(names, row[3]), moved_numbers(names, row[4]))
        moved.append(row)
    return tuple(moved)


def behind(one, other):
    """A program that is right, behind another one with as many ends as it has inputs."""
    many = all_count(one)
    names = list(one[2]) + [many + at for at in range(rows_count(other[1]))]
    return (one[0], one[1] + moved_rows(names, other[1]), moved_numbers(names, other[2]))


def put_behind(book, one, other):
    """The program that has the other's rows behind the one's, with the one's ends for its inputs."""
    one = need_program(book, one)
    other = need_program(book, other)
    if len(other[0]) != len(one[2]):
        raise InvalidProgram(0)
    return behind(one, other)


class Unrolling:
    """Copies rows, turn by turn, and keeps which copies stand for which register."""

    def __init__(self, turns, inputs):
        self.turns = turns
        self.many = 0
        self.names = {}
        self.copies = {}
        for number in range(inputs):
            self.make(number)

    def stand(self, number, copy):
        """Lets a copy stand for a register from now on."""
        self.names[number] = copy
        known = self.copies.setdefault(number, {})
        known[copy] = True

    def make(self, number):
        """Makes a new copy of a register."""
        self.stand(number, self.many)
        self.many += 1

    def copied(self, rows, number):
        """Copies of rows whose registers begin at a number."""
        found = []
        for row in rows:
            if row[0] == "fork":
                found.append(self.copied_fork(row, number))
            elif row[0] == "loop":
                turns = self.turns if row[1] is None else row[1]
                found.extend(self.copied_loop(row, number, turns, moved_numbers(self.names, row[2])))
            elif row[0] == "of":
                found.append(("of", row[1], moved_numbers(self.names, row[2])))
                self.make(number)
            else:
                found.append(row)
                self.make(number)
            number += rows_count([row])
        return found

    def copied_fork(self, row, number):
        """The copy of a fork."""
        _, test, firsts, seconds, pairs = row
        test = None if test is None else (self.names[test[0]], test[1])
        one = tuple(self.copied(firsts, number))
        number += rows_count(firsts)
        other = tuple(self.copied(seconds, number))
        number += rows_count(seconds)
        reads = tuple([moved_numbers(self.names, pair) for pair in pairs])
        for at in range(len(pairs)):
            self.make(number + at)
        return ("fork", test, one, other, reads)

    def copied_loop(self, row, number, turns, firsts):
        """What stands for a loop of so many turns at most whose heads are these copies at first."""
        for at, first in enumerate(firsts):
            self.stand(number + at, first)
        if turns == 0:
            return []
        inner = self.copied(row[3], number + len(firsts))
        inner.extend(self.copied_loop(row, number, turns - 1, moved_numbers(self.names, row[4])))
        pairs = tuple([(first, self.names[number + at]) for at, first in enumerate(firsts)])
        for at in range(len(firsts)):
            self.make(number + at)
        return [("fork", None, (), tuple(inner), pairs)]


def unrolled(book, program, turns):
    """The program with forks for loops, of so many turns where any number is let, and the copies of each register."""
    program = need_program(book, program)
    if not is_number(turns):
        raise InvalidSize("turns")
    unrolling = Unrolling(turns, len(program[0]))
    rows = tuple(unrolling.copied(program[1], len(program[0])))
    ends = moved_numbers(unrolling.names, program[2])
    copies = [unrolling.copies.get(number, {}) for number in range(all_count(program))]
    return ((program[0], rows, ends), tuple([tuple(sorted(known)) for known in copies]))
