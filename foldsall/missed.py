"""What one told program misses: kept sets split into cases, and the grounded rows that tell the same."""

from foldsall.common import first_not_rising, is_below, is_sequence, is_tuple_of, is_value_list
from foldsall.errors import InvalidIndex, InvalidLot, Refused
from foldsall.folding import given_values
from foldsall.programs import all_count, all_sources, is_plain, need_program
from foldsall.runs import shown_of
from foldsall.tables import need_book


def need_rows(book, program):
    """A program without forks and loops over a book."""
    program = need_program(book, program)
    if not is_plain(program):
        raise Refused("rows")
    return program


def need_lot(program, lot):
    """A lot of registers of a program."""
    if not is_sequence(lot):
        raise InvalidLot(-1)
    at = first_not_rising(all_count(program), lot)
    if at is not None:
        raise InvalidLot(at)
    return tuple(lot)


class Cases:
    """Goes through a program case by case; for each possible one what is kept, in their order."""

    def __init__(self, book, program, lot):
        self.book = book
        self.found = [()]
        for number, source in enumerate(all_sources(program)):
            nexts = []
            for kept in self.found:
                values = tuple(sorted(set(given_values(book, source, kept))))
                if number in lot:
                    nexts.extend([(*kept, (value,)) for value in values])
                else:
                    nexts.append((*kept, values))
            self.found = nexts


def split_cases(book, program, lot):
    """The possible cases of a lot, ascending."""
    program = need_rows(book, program)
    lot = need_lot(program, lot)
    cases = Cases(need_book(book), program, lot).found
    return tuple([tuple([kept[number][0] for number in lot]) for kept in cases])


def split_kept(book, program, lot):
    """For each register, ascending, all that it keeps in some possible case of a lot that is right."""
    cases = Cases(book, program, lot).found
    many = all_count(program)
    return tuple([tuple(sorted({value for kept in cases for value in kept[number]})) for number in range(many)])


def split_sets(book, program, lot):
    """For each register, ascending, all that it keeps in some possible case."""
    program = need_rows(book, program)
    lot = need_lot(program, lot)
    return split_kept(need_book(book), program, lot)


def missed_values(book, program, lot):
    """All (register, value) that are kept in some possible case and never shown, ascending."""
    program = need_rows(book, program)
    lot = need_lot(program, lot)
    book = need_book(book)
    shown = shown_of(book, program)
    kept = split_kept(book, program, lot)
    return tuple([(number, value) for number, values in enumerate(kept) for value in values
                  if value not in shown[number]])


def need_place(book, program, number, value):
    """Raises if these are no register of a program and no value of a book."""
    if not is_below(all_count(program), number):
        raise InvalidIndex(0)
    if not is_below(book[0], value):
        raise InvalidIndex(1)


def grounded_row(book, program, lot, number, value):
    """Some grounded row with a value at a register and one value at each of the lot; None if there is none."""
    program = need_rows(book, program)
    lot = need_lot(program, lot)
    book = need_book(book)
    need_place(book, program, number, value)
    rows = [kept for kept in Cases(book, program, lot).found if value in kept[number]]
    return rows[0] if rows else None


def is_value_row(size, many, row):
    """Whether any value is a tuple of so many ascending tuples of one value or more."""
    return is_tuple_of(many, row) and all([isinstance(lot, tuple) and is_value_list(size, lot) for lot in row])


def is_grounded(book, program, lot, number, value, row):
    """Whether any value is such a grounded row."""
    program = need_rows(book, program)
    lot = need_lot(program, lot)
    book = need_book(book)
    need_place(book, program, number, value)
    if not is_value_row(book[0], all_count(program), row):
        return False
    if value not in row[number] or not all([len(row[at]) == 1 for at in lot]):
        return False
    for values, source in zip(row, all_sources(program)):
        given = given_values(book, source, row)
        if not all([one in given for one in values]):
            return False
    return True
