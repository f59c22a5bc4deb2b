"""Sizes, operations and books told by tables; what an operation hangs on."""

from foldsall.common import (all_rows, answered, hangs_at, held_answers, is_alike, is_below, is_between, is_row_of,
                             is_sequence, left_many, power)
from foldsall.errors import InvalidBook, InvalidOperation, InvalidSize, InvalidTable, InvalidValues


def is_size(value):
    """Whether any value is a size."""
    return is_between(2, 8, value)


def need_size(value):
    """Raises if any value is no size."""
    if not is_size(value):
        raise InvalidSize("size")


def is_table(size, least, most, value):
    """Whether any value is (places, answers) with so many places, least to most."""
    if not is_row_of(2, value) or not is_between(least, most, value[0]):
        return False
    if not is_row_of(power(size, value[0]), value[1]):
        return False
    return all([is_below(size, answer) for answer in value[1]])


def is_operation(size, value):
    """Whether any value is an operation of a size, in lists or tuples."""
    return is_table(size, 1, 3, value)


def need_operation(size, value):
    """An operation of a size, in tuples."""
    need_size(size)
    if not is_operation(size, value):
        raise InvalidOperation(-1)
    return (value[0], tuple(value[1]))


def need_book(value):
    """A book, in tuples."""
    if not is_row_of(2, value) or not is_size(value[0]) or not is_sequence(value[1]) or len(value[1]) > 8:
        raise InvalidBook(-1)
    for at, operation in enumerate(value[1]):
        if not is_operation(value[0], operation):
            raise InvalidBook(at)
    return (value[0], tuple([(places, tuple(answers)) for places, answers in value[1]]))


def need_held(size, places, held):
    """Raises if anything is no sequence of a value or None for each place."""
    if not is_row_of(places, held):
        raise InvalidValues(-1)
    for at, value in enumerate(held):
        if value is not None and not is_below(size, value):
            raise InvalidValues(at)


def held_table(size, operation, held):
    """How many places are left, and the answers for all rows of values at these, the others as held."""
    places, answers = need_operation(size, operation)
    need_held(size, places, held)
    return (left_many(held), held_answers(answers, [size] * places, held))


def settled_value(size, operation, held):
    """The one answer of the held table; None if it has several."""
    _, answers = held_table(size, operation, held)
    return answers[0] if is_alike(answers) else None


def hung_in(size, places, answers):
    """The places on which the answers of a table hang, ascending."""
    return tuple([place for place in range(places) if hangs_at([size] * places, answers, place)])


def hung_places(size, operation):
    """The places on which an operation hangs, ascending."""
    places, answers = need_operation(size, operation)
    return hung_in(size, places, answers)


def least_table(size, operation):
    """The places on which an operation hangs, and the answers for all rows of values at them."""
    places, answers = need_operation(size, operation)
    hung = hung_in(size, places, answers)
    held = [None if place in hung else 0 for place in range(places)]
    return (hung, held_answers(answers, [size] * places, held))


def two_places(size, operation):
    """Some two places, and values held at the others, such that the held table hangs on both; None if none are."""
    places, answers = need_operation(size, operation)
    for other in range(places):
        for place in range(other):
            choices = [[None] if at in (place, other) else list(range(size)) for at in range(places)]
            for held in all_rows(choices):
                if len(hung_in(size, 2, held_answers(answers, [size] * places, held))) == 2:
                    return (place, other, held)
    return None


def need_tables(size, many, tables):
    """Raises if anything is no sequence of so many tables of as many places."""
    if not is_row_of(many, tables):
        raise InvalidTable(-1)
    for at, table in enumerate(tables):
        if not is_table(size, 0, 6, table) or table[0] != tables[0][0]:
            raise InvalidTable(at)


def joined_table(size, operation, tables):
    """The places of the tables, and the operation's answers of their answers, row by row."""
    places, answers = need_operation(size, operation)
    need_tables(size, places, tables)
    return (tables[0][0], answered(answers, [size] * places, [table[1] for table in tables]))
