"""Kept sets of programs with one input of two values: whether they are exact, whatever the program."""

from foldsall.arrows import book_tables, grown_from
from foldsall.common import Weave, all_rows, answered, found_lie, is_below, is_tuple_of, lots_below, unshown
from foldsall.errors import InvalidIndex
from foldsall.folding import Keeping
from foldsall.programs import all_sources, is_plain, plain_values, program_fault
from foldsall.tables import need_book


def need_values(book, one, other):
    """A book; raises if the two are not unlike values of it."""
    book = need_book(book)
    if not is_below(book[0], one):
        raise InvalidIndex(0)
    if not is_below(book[0], other) or other == one:
        raise InvalidIndex(1)
    return book


def growth_of(book, one, other):
    """What operations make of a pair, some places held at told values."""
    return grown_from(book_tables(book), (one, other), False)


def pair_lot(size, growth):
    """All pairs that have grown, and those of alike values, ascending."""
    return tuple(sorted(set([*growth.found[0], *[(value, value) for value in range(size)]])))


def pair_rows(book, one, other):
    """The least lot with a pair, those of alike values, and what operations make of pairs; ascending."""
    book = need_values(book, one, other)
    return pair_lot(book[0], growth_of(book, one, other))


def pair_paper(book, one, other):
    """The pairs, if they are right, or a program and a value that its end keeps and no run shows."""
    book = need_values(book, one, other)
    growth = growth_of(book, one, other)
    lie = found_lie(growth)
    if lie is None:
        return ("right", pair_lot(book[0], growth))
    weave = Weave(1)
    end = weave.put_lie(growth, {growth.order[0]: 0}, lie)
    values = tuple(sorted([one, other]))
    return ("lies", ((values,), tuple(weave.rows), (end,)), lie[2])


def are_rows(size, many, value):
    """Whether any value is an ascending tuple of unlike rows of so many values."""
    if not isinstance(value, tuple):
        return False
    for at, row in enumerate(value):
        if not is_tuple_of(many, row) or not all([is_below(size, one) for one in row]):
            return False
        if at > 0 and row <= value[at - 1]:
            return False
    return True


def are_closed_rightly(book, rows):
    """Whether operations make of rows such rows alone, and have no answers to their values but those in them."""
    size, operations = book
    known = {row: True for row in rows}
    for places, answers in operations:
        sizes = [size] * places
        for lot in all_rows([rows] * places):
            if answered(answers, sizes, lot) not in known or unshown(answers, sizes, lot) is not None:
                return False
    return True


def are_right_rows(book, values, value):
    """Whether any value is a lot of rows with these values, and those of one value, of which nothing else is made."""
    if not are_rows(book[0], len(values), value) or values not in value:
        return False
    if not all([(one,) * len(values) in value for one in range(book[0])]):
        return False
    return are_closed_rightly(book, value)


def does_lie(book, values, program, value):
    """Whether any values are a program of one input with this list, and a value that its end keeps and no run shows."""
    if program_fault(book, program) is not None or not is_plain(program):
        return False
    inputs, _, ends = program
    if inputs != (values,) or len(ends) != 1 or not is_below(book[0], value):
        return False
    if value not in Keeping(book, all_sources(program), None).kept[ends[0]]:
        return False
    return value not in [plain_values(book, program, (one,))[ends[0]] for one in values]


def pair_holds(book, one, other, value):
    """Whether any value is pairs that are right, or a program and a value that its end keeps and no run shows."""
    book = need_values(book, one, other)
    if is_tuple_of(2, value):
        return value[0] == "right" and are_right_rows(book, (one, other), value[1])
    if not is_tuple_of(3, value) or value[0] != "lies":
        return False
    return does_lie(book, tuple(sorted([one, other])), value[1], value[2])


def right_pairs(book):
    """All pairs, the lesser value first, that are right; ascending."""
    book = need_book(book)
    return tuple([pair for pair in lots_below(book[0], 2) if found_lie(growth_of(book, pair[0], pair[1])) is None])
