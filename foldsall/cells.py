"""The fewest cells to change until an operation has no fall, or a book of two values misses nothing."""

from foldsall.common import is_below, is_number, is_tuple_of, power, value_rows
from foldsall.errors import Refused
from foldsall.tables import is_operation, need_book, need_operation


def is_under(row, other):
    """Whether a cell is below another one."""
    return row != other and all([one <= two for one, two in zip(row, other)])


def is_fall(rows, answers, one, other):
    """Whether a cell is below another one with a greater answer."""
    return answers[one] > answers[other] and is_under(rows[one], rows[other])


def all_falls(size, operation):
    """For each cell those above it with which it is a fall."""
    places, answers = operation
    rows = value_rows(size, places)
    cells = range(len(rows))
    return [[other for other in cells if is_fall(rows, answers, one, other)] for one in cells]


class Chains:
    """Cells put into the fewest rows of falls: each cell has at most one next one, and is that of at most one."""

    def __init__(self, falls):
        self.falls = falls
        self.behind = [None for _ in falls]
        self.ahead = [None for _ in falls]
        for cell in range(len(falls)):
            self.widen(cell)

    def reached(self, cells):
        """What turns in and out reach from cells without a next one: next ones, each with the cell it is read from."""
        origins = {}
        waiting = list(cells)
        at = 0
        while at < len(waiting):
            cell = waiting[at]
            for other in self.falls[cell]:
                if other not in origins:
                    origins[other] = cell
                    if self.ahead[other] is not None:
                        waiting.append(self.ahead[other])
            at += 1
        return origins

    def widen(self, cell):
        """Gives a cell a next one, if others can be turned so."""
        origins = self.reached([cell])
        ends = [other for other in sorted(origins) if self.ahead[other] is None]
        other = ends[0] if ends else None
        while other is not None:
            origin = origins[other]
            given = self.behind[origin]
            self.behind[origin] = other
            self.ahead[other] = origin
            other = given

    def chain_rows(self):
        """The rows, from the lowest cell of each on."""
        rows = []
        for cell in range(len(self.falls)):
            if self.ahead[cell] is None:
                row = [cell]
                while self.behind[row[-1]] is not None:
                    row.append(self.behind[row[-1]])
                rows.append(tuple(row))
        return tuple(rows)

    def stays(self):
        """As many cells as there are rows, no two of them a fall."""
        loose = [cell for cell, other in enumerate(self.behind) if other is None]
        origins = self.reached(loose)
        out = {cell: True for cell in loose}
        for other in origins:
            if self.ahead[other] is not None:
                out[self.ahead[other]] = True
        return [cell for cell in range(len(self.falls)) if cell in out and cell not in origins]


def risen_answers(size, operation, stays):
    """The least answers without a fall that are as told at cells no two of which are a fall."""
    places, answers = operation
    rows = value_rows(size, places)
    risen = []
    for row in rows:
        lower = [cell for cell in stays if rows[cell] == row or is_under(rows[cell], row)]
        risen.append(max([answers[cell] for cell in lower], default=0))
    return tuple(risen)


def rising_parts(size, operation):
    """Rows of falls, as few as can be, and answers without a fall that differ as little as can be."""
    chains = Chains(all_falls(size, operation))
    return (chains.chain_rows(), risen_answers(size, operation, chains.stays()))


def rising_paper(size, operation):
    """Rows of falls with all cells, and answers without a fall that differ in all cells but as many as rows."""
    return rising_parts(size, need_operation(size, operation))


def many_unlike(answers, others):
    """In how many cells answers differ."""
    return len([one for one, other in zip(answers, others) if one != other])


def has_fall(size, operation):
    """Whether an operation has a fall."""
    return any([len(others) > 0 for others in all_falls(size, operation)])


def are_fall_rows(size, operation, value):
    """Whether any value is a tuple of rows of falls in which all cells are, each once."""
    if not isinstance(value, tuple):
        return False
    places, answers = operation
    cells = value_rows(size, places)
    known = {}
    for row in value:
        if not isinstance(row, tuple) or len(row) == 0:
            return False
        for at, cell in enumerate(row):
            if not is_below(len(cells), cell) or cell in known:
                return False
            if at > 0 and not is_fall(cells, answers, row[at - 1], cell):
                return False
            known[cell] = True
    return len(known) == len(cells)


def rising_holds(size, operation, value):
    """Whether any value is rows of falls and answers that tell how many cells are to be changed."""
    places, answers = need_operation(size, operation)
    if not is_tuple_of(2, value) or not are_fall_rows(size, (places, answers), value[0]):
        return False
    rows, risen = value
    if not is_tuple_of(len(answers), risen) or not is_operation(size, (places, risen)):
        return False
    return many_unlike(answers, risen) == len(answers) - len(rows) and not has_fall(size, (places, risen))


def single_answers(places):
    """All answers over two values that are told, one place, or one place turned."""
    rows = value_rows(2, places)
    found = [(value,) * len(rows) for value in range(2)]
    for place in range(places):
        found.append(tuple([row[place] for row in rows]))
        found.append(tuple([1 - row[place] for row in rows]))
    return found


def nearest_single(operation):
    """Answers that are told, one place, or one place turned, and differ in the fewest cells."""
    places, answers = operation
    return min([(many_unlike(answers, single), single) for single in single_answers(places)])[1]


def all_unlike(operations, others):
    """In how many cells operations differ, in all."""
    return sum([many_unlike(one[1], other[1]) for one, other in zip(operations, others)])


def need_two(book):
    """The operations of a book of two values."""
    size, operations = need_book(book)
    if size != 2:
        raise Refused(-1)
    return operations


def nearest_books(operations):
    """The rows of falls of operations, and the two nearest rows of operations that are let."""
    parts = [rising_parts(2, operation) for operation in operations]
    risen = tuple([(operation[0], part[1]) for operation, part in zip(operations, parts)])
    single = tuple([(operation[0], nearest_single(operation)) for operation in operations])
    return (tuple([part[0] for part in parts]), risen, single)


def book_cells(book):
    """The fewest cells to change until a book is let, the operations then, and rows of falls of the told ones."""
    operations = need_two(book)
    rows, risen, single = nearest_books(operations)
    nearest = risen if all_unlike(operations, risen) <= all_unlike(operations, single) else single
    return (all_unlike(operations, nearest), nearest, rows)


def are_let(operations):
    """Whether operations over two values are let: none has a fall, or each looks at one place at most."""
    if not any([has_fall(2, operation) for operation in operations]):
        return True
    return all([answers in single_answers(places) for places, answers in operations])


def are_operations_like(operations, value):
    """Whether any value is operations over two values with as many places as those, in tuples alone."""
    if not is_tuple_of(len(operations), value):
        return False
    for operation, other in zip(operations, value):
        if not is_tuple_of(2, other) or not isinstance(other[1], tuple) or not is_operation(2, other):
            return False
        if operation[0] != other[0]:
            return False
    return True


def book_cells_hold(book, value):
    """Whether any value tells rightly how many cells of a book are to be changed."""
    operations = need_two(book)
    if not is_tuple_of(3, value) or not is_number(value[0]) or not are_operations_like(operations, value[1]):
        return False
    many, others, rows = value
    if not is_tuple_of(len(operations), rows) or not are_let(others) or all_unlike(operations, others) != many:
        return False
    for operation, row in zip(operations, rows):
        if not are_fall_rows(2, operation, row):
            return False
    cells = sum([power(2, operation[0]) for operation in operations])
    _, risen, single = nearest_books(operations)
    return (cells - sum([len(row) for row in rows]) >= many
            and many <= min(all_unlike(operations, risen), all_unlike(operations, single)))
