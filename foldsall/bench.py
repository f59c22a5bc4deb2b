"""A bench where straight programs are edited: what folding keeps, kept sets and two runs, always as from nothing."""

from foldsall.common import (all_rows, held_answers, is_alike, is_below, is_sequence, is_tuple_of, is_value_list,
                             spot_in)
from foldsall.errors import FoldError, InvalidIndex, InvalidProgram, Refused
from foldsall.tables import need_book


def are_numbers(many, value):
    """Whether any value is a tuple of numbers below many."""
    return isinstance(value, tuple) and all([is_below(many, number) for number in value])


def is_plain_row(book, many, row):
    """Whether any value is a row of a told value or an operation, behind so many registers."""
    size, operations = book
    if is_tuple_of(2, row):
        return row[0] == "told" and is_below(size, row[1])
    if not is_tuple_of(3, row) or row[0] != "of" or not is_below(len(operations), row[1]):
        return False
    return is_tuple_of(operations[row[1]][0], row[2]) and are_numbers(many, row[2])


def need_inputs(book, inputs):
    """Lists of inputs, in tuples."""
    if not is_sequence(inputs) or not all([is_value_list(book[0], values) for values in inputs]):
        raise InvalidProgram(0)
    return tuple([tuple(values) for values in inputs])


def reads_of(row):
    """The registers that a row reads."""
    return row[2] if row[0] == "of" else ()


def shifted(row, spot):
    """A row behind one that is taken out."""
    if row[0] == "told":
        return row
    return ("of", row[1], tuple([number - 1 if number > spot else number for number in row[2]]))


def replaced(things, at, thing):
    """Things with another one at a place."""
    return (*things[:at], thing, *things[at + 1:])


class Bench:
    """A straight program that is edited; each deed reckons anew only what may turn by it.

    `known` has for each register its folded value or None, its kept set, and its values in two runs.
    """

    def __init__(self, book, inputs, one, other):
        self.book = need_book(book)
        self.lists = need_inputs(self.book, inputs)
        for at, value in enumerate((one, other)):
            if not is_below(self.book[0], value):
                raise InvalidIndex(at)
        self.one = one
        self.other = other
        self.rows = ()
        self.ends = ()
        self.known = tuple([self.reckoned_list(values) for values in self.lists])
        self.looked = ()

    def reckoned_list(self, values):
        """What is known of an input."""
        if len(values) == 1:
            return (values[0], values, (values[0], values[0]))
        return (None, values, (self.one, self.other))

    def reckoned(self, known, number):
        """What is known of a register, by what is known of those that it reads."""
        if number < len(self.lists):
            return self.reckoned_list(self.lists[number])
        row = self.rows[number - len(self.lists)]
        if row[0] == "told":
            return (row[1], (row[1],), (row[1], row[1]))
        answers = self.book[1][row[1]][1]
        sizes = [self.book[0]] * len(row[2])
        read = [known[at] for at in row[2]]
        made = held_answers(answers, sizes, [folded for folded, _, _ in read])
        kept = {answers[spot_in(sizes, values)]: True for values in all_rows([lot for _, lot, _ in read])}
        runs = [answers[spot_in(sizes, [values[run] for _, _, values in read])] for run in range(2)]
        return (made[0] if is_alike(made) else None, tuple(sorted(kept)), tuple(runs))

    def reckon(self, number):
        """Reckons a register anew, and in order each one that reads one of which what is known has turned."""
        known = list(self.known)
        turned = {}
        looked = []
        for at in range(number, len(known)):
            reads = () if at < len(self.lists) else reads_of(self.rows[at - len(self.lists)])
            if at == number or any([read in turned for read in reads]):
                looked.append(at)
                now = self.reckoned(known, at)
                if now != known[at]:
                    turned[at] = True
                    known[at] = now
        self.known = tuple(known)
        self.looked = tuple(looked)

    def need_spot(self, spot):
        """Raises if any value is no register of a row."""
        if not is_below(len(self.known), spot) or spot < len(self.lists):
            raise InvalidIndex(-1)

    def put_row(self, row):
        """Puts a row behind all, and tells its register."""
        if not is_plain_row(self.book, len(self.known), row):
            raise InvalidProgram(1)
        self.rows = (*self.rows, row)
        self.known = (*self.known, None)
        self.reckon(len(self.known) - 1)
        return len(self.known) - 1

    def set_row(self, spot, row):
        """Puts a row in the place of another one."""
        self.need_spot(spot)
        if not is_plain_row(self.book, spot, row):
            raise InvalidProgram(1)
        self.rows = replaced(self.rows, spot - len(self.lists), row)
        self.reckon(spot)

    def take_row(self, spot):
        """Takes out a row that nobody reads."""
        self.need_spot(spot)
        if spot in self.ends or any([spot in reads_of(row) for row in self.rows]):
            raise Refused(spot)
        at = spot - len(self.lists)
        left = (*self.rows[:at], *self.rows[at + 1:])
        self.rows = tuple([shifted(row, spot) for row in left])
        self.known = (*self.known[:spot], *self.known[spot + 1:])
        self.ends = tuple([end - 1 if end > spot else end for end in self.ends])
        self.looked = ()

    def set_list(self, number, values):
        """Gives an input another list."""
        if not is_below(len(self.lists), number):
            raise InvalidIndex(-1)
        if not is_value_list(self.book[0], values):
            raise InvalidProgram(0)
        self.lists = replaced(self.lists, number, tuple(values))
        self.reckon(number)

    def set_ends(self, registers):
        """Tells the ends."""
        if not is_sequence(registers) or not are_numbers(len(self.known), tuple(registers)):
            raise InvalidProgram(2)
        self.ends = tuple(registers)
        self.looked = ()

    def program_now(self):
        """The program as it is now."""
        return (self.lists, self.rows, self.ends)

    def folded_now(self):
        """For each register its folded value, or None."""
        return tuple([folded for folded, _, _ in self.known])

    def kept_now(self):
        """For each register its kept set."""
        return tuple([kept for _, kept, _ in self.known])

    def runs_now(self):
        """For each register its values in the two runs."""
        return tuple([values for _, _, values in self.known])


def do_told(bench, deed):
    """Does a deed at a bench; tells whether any value is one."""
    if not is_sequence(deed) or len(deed) not in (2, 3):
        return False
    word = deed[0]
    if len(deed) == 3:
        if word == "set":
            bench.set_row(deed[1], deed[2])
        elif word == "list":
            bench.set_list(deed[1], deed[2])
        return word in ("set", "list")
    if word == "put":
        bench.put_row(deed[1])
    elif word == "take":
        bench.take_row(deed[1])
    elif word == "ends":
        bench.set_ends(deed[1])
    return word in ("put", "take", "ends")


def bench_behind(book, inputs, one, other, deeds):
    """The bench behind deeds."""
    bench = Bench(book, inputs, one, other)
    if not is_sequence(deeds):
        raise InvalidIndex(-1)
    for at, deed in enumerate(deeds):
        try:
            done = do_told(bench, deed)
        except FoldError:
            done = False
        if not done:
            raise InvalidIndex(at)
    return bench
