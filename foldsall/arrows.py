"""Arrows: pairs of unlike values that held operations lead to such pairs."""

from foldsall.common import (Growth, HeldTable, all_rows, answered, held_answers, held_choices, is_alike,
                             is_below, is_tuple_of, unlike_couples)
from foldsall.errors import InvalidIndex
from foldsall.tables import need_book


def held_tables(size, operations, numbers, values):
    """The held operations of these numbers, told some of the values, that are not dull; alike ones once."""
    tables = []
    seen = {}
    for number in numbers:
        places, answers = operations[number]
        for held in held_choices([values] * places):
            left = held.count(None)
            made = held_answers(answers, [size] * places, held)
            if is_alike(made) or (left, made) in seen:
                continue
            seen[(left, made)] = True
            parts = [None if value is None else ("told", value) for value in held]
            tables.append(HeldTable(number, parts, [0] * left, [size] * left, 0, made))
    return tables


def book_tables(book):
    """The held operations of a whole book, told any values, that are not dull."""
    size, operations = book
    return held_tables(size, operations, list(range(len(operations))), list(range(size)))


def grown_from(tables, row, till_alike):
    """What held tables lead a row to, and what they lead such rows to."""
    growth = Growth(1, tables)
    growth.take_row(0, row, None)
    growth.grow(till_alike)
    return growth


def are_led_within(tables, pairs):
    """Whether held tables lead any of the pairs to one of them."""
    known = {pair: True for pair in pairs}
    for table in tables:
        for rows in all_rows([pairs] * len(table.sorts)):
            if answered(table.answers, table.sizes, rows) not in known:
                return False
    return True


def is_pair_lot(size, value):
    """Whether any value is an ascending tuple of one or more pairs of unlike values."""
    if not isinstance(value, tuple) or len(value) == 0:
        return False
    for at, pair in enumerate(value):
        if not is_tuple_of(2, pair) or not is_below(size, pair[0]) or not is_below(size, pair[1]):
            return False
        if pair[0] == pair[1] or (at > 0 and pair <= value[at - 1]):
            return False
    return True


def least_arrows(book, one, other):
    """The least lot of pairs that has this one and all to which its pairs are led, ascending."""
    book = need_book(book)
    if not is_below(book[0], one):
        raise InvalidIndex(0)
    if not is_below(book[0], other):
        raise InvalidIndex(1)
    return tuple(sorted(grown_from(book_tables(book), (one, other), False).found[0]))


def are_arrows(book, value):
    """Whether any value is arrows of the book."""
    book = need_book(book)
    return is_pair_lot(book[0], value) and are_led_within(book_tables(book), value)


def sure_pairs(book):
    """The pairs whose least arrows are all of unlike values, ascending."""
    book = need_book(book)
    tables = book_tables(book)
    return tuple([pair for pair in unlike_couples(book[0]) if grown_from(tables, pair, True).alike is None])
