"""Sorts of two values: whether they can be turned so that all rises; and whether kept sets over sorts are exact."""

from foldsall.common import (Weave, found_lie, is_below, is_tuple_of, is_value_list, lots_below, spot_in,
                             value_rows)
from foldsall.errors import Refused
from foldsall.sortrows import grown_sorts, sorted_tables
from foldsall.sorts import kept_sorted, need_sorted, program_fault, row_sorts, run_sorted, sorts_reached


def need_turning(book):
    """Raises if any value is no book of sorts of two values that all reach one another."""
    need_sorted(book)
    if not all([size == 2 for size in book[0]]):
        raise Refused(-1)
    for sort, reached in enumerate(sorts_reached(book)):
        if len(reached) < len(book[0]):
            raise Refused(sort)


def does_rise(operation, turns):
    """Whether no answer falls as a place rises, where 0 and 1 of turned sorts stand for each other."""
    sorts, made, answers = operation
    for row in value_rows(2, len(sorts)):
        for place, sort in enumerate(sorts):
            if row[place] == turns[sort]:
                higher = [1 - value if at == place else value for at, value in enumerate(row)]
                lower = answers[spot_in([2] * len(row), row)]
                upper = answers[spot_in([2] * len(row), higher)]
                if lower != upper and lower != turns[made]:
                    return False
    return True


def are_turns(book, value):
    """Whether any value tells, for each sort, how it is turned so that all operations rise."""
    if not is_tuple_of(len(book[0]), value) or not all([is_below(2, turn) for turn in value]):
        return False
    return all([does_rise(operation, value) for operation in book[1]])


def only_start(many, sort, row):
    """A row for one sort, None for all others."""
    return [row if other == sort else None for other in range(many)]


def turned_paper(book):
    """Some row of turns, or, if there is none, some program whose end always has the other value than its input."""
    need_turning(book)
    many = len(book[0])
    for turns in value_rows(2, many):
        if are_turns(book, turns):
            return ("turns", turns)
    growth = grown_sorts(sorted_tables(book), only_start(many, 0, (0, 1)), False)
    weave = Weave(1)
    weave.put_grown(growth, {growth.order[0]: 0}, (0, (1, 0)))
    return ("ring", ((0,), tuple(weave.rows)))


def is_ring(book, program):
    """Whether any value is a program of one input whose end is of its sort and always has the other value."""
    if program_fault(book, program) is not None or len(program[0]) != 1:
        return False
    if row_sorts(book, program)[-1] != program[0][0]:
        return False
    return all([run_sorted(book, program, (value,))[-1] == 1 - value for value in range(2)])


def turned_holds(book, value):
    """Whether any value is some row of turns, or some such program."""
    need_turning(book)
    if not is_tuple_of(2, value):
        return False
    if value[0] == "turns":
        return are_turns(book, value[1])
    return value[0] == "ring" and is_ring(book, value[1])


def lying_program(book):
    """The values of an input, a program of it, and a value that its end keeps and no run shows; None if none does."""
    tables = sorted_tables(book)
    many = len(book[0])
    for sort, size in enumerate(book[0]):
        for pair in lots_below(size, 2):
            growth = grown_sorts(tables, only_start(many, sort, pair), False)
            lie = found_lie(growth)
            if lie is not None:
                weave = Weave(1)
                weave.put_lie(growth, {growth.order[0]: 0}, lie)
                return (pair, ((sort,), tuple(weave.rows)), lie[2])
    return None


def sort_sets_paper(book):
    """Whether kept sets over sorts are exact, or some program of which one is not."""
    lying = lying_program(need_sorted(book))
    return ("exact",) if lying is None else ("lies", *lying)


def is_lie(book, values, program, value):
    """Whether any values are an input's values, a program of it, and a value that its end keeps and no run shows."""
    if program_fault(book, program) is not None or len(program[0]) != 1:
        return False
    if not isinstance(values, tuple) or not is_value_list(book[0][program[0][0]], values):
        return False
    if not is_below(book[0][row_sorts(book, program)[-1]], value):
        return False
    shown = [run_sorted(book, program, (one,))[-1] for one in values]
    return value in kept_sorted(book, program, (values,))[-1] and value not in shown


def sort_sets_hold(book, value):
    """Whether any value tells rightly that kept sets are exact, or some program of which one is not."""
    need_sorted(book)
    if is_tuple_of(1, value):
        return value[0] == "exact" and lying_program(book) is None
    return is_tuple_of(4, value) and value[0] == "lies" and is_lie(book, value[1], value[2], value[3])
