"""Lots of a book's operations, and values told: with which of them folding misses nothing."""

from foldsall.arrows import are_led_within, grown_from, held_tables, is_pair_lot
from foldsall.common import (Weave, all_rows, first_not_rising, is_alike, is_below, is_sequence, is_tuple_of,
                             lots_below, spot_in)
from foldsall.court import end_values, is_story, story_of
from foldsall.errors import InvalidIndex, InvalidList, InvalidLot, Refused
from foldsall.tables import need_book


def is_closed(book, lot, values):
    """Whether answers of these operations at these values, and of constant ones, are among the values."""
    size, operations = book
    for number in lot:
        places, answers = operations[number]
        made = [answers[spot_in([size] * places, row)] for row in all_rows([values] * places)]
        if is_alike(answers):
            made.append(answers[0])
        if not all([answer in values for answer in made]):
            return False
    return True


def need_lots(book, lot, values):
    """A book, a lot of its operations and a closed lot of its values, in tuples."""
    book = need_book(book)
    if not is_sequence(lot):
        raise InvalidLot(-1)
    at = first_not_rising(len(book[1]), lot)
    if at is not None:
        raise InvalidLot(at)
    if not is_sequence(values):
        raise InvalidList(-1)
    at = first_not_rising(book[0], values)
    if at is not None:
        raise InvalidList(at)
    if not is_closed(book, lot, values):
        raise Refused(-1)
    return (book, tuple(lot), tuple(values))


def merging_story(size, growth):
    """The story that brings together the two values from which a lot of pairs has grown."""
    weave = Weave(1)
    return story_of(size, weave, weave.put_grown(growth, {growth.order[0]: 0}, growth.alike))


def paper_of(book, lot, values):
    """The paper of a book, a lot and values that are right."""
    tables = held_tables(book[0], book[1], lot, values)
    rows = []
    for pair in lots_below(book[0], 2):
        growth = grown_from(tables, pair, True)
        if growth.alike is None:
            return ("let", tuple(sorted(growth.found[0])))
        rows.append((*pair, merging_story(book[0], growth)))
    return ("not", tuple(rows))


def lot_paper(book, lot, values):
    """Some pairs that the operations of a lot keep, or for each two values a story that brings them together."""
    book, lot, values = need_lots(book, lot, values)
    return paper_of(book, lot, values)


def is_lot_story(book, lot, values, program):
    """Whether any value is a story with told values of these and operations of the lot."""
    if not is_story(book, program):
        return False
    return all([row[1] in (values if row[0] == "told" else lot) for row in program[1]])


def brings_together(book, lot, values, row, pair):
    """Whether any value is a row of two values and a story that brings them together."""
    if not is_tuple_of(3, row) or not is_below(book[0], row[0]) or not is_below(book[0], row[1]):
        return False
    if row[:2] != pair or not is_lot_story(book, lot, values, row[2]):
        return False
    ends = end_values(book, row[2])
    return ends[pair[0]] == ends[pair[1]]


def holds_of(book, lot, values, value):
    """Whether any value is a paper of a book, a lot and values that are right."""
    if not is_tuple_of(2, value):
        return False
    if value[0] == "let":
        tables = held_tables(book[0], book[1], lot, values)
        return is_pair_lot(book[0], value[1]) and are_led_within(tables, value[1])
    pairs = lots_below(book[0], 2)
    if value[0] != "not" or not is_tuple_of(len(pairs), value[1]):
        return False
    return all([brings_together(book, lot, values, row, pair) for row, pair in zip(value[1], pairs)])


def lot_holds(book, lot, values, value):
    """Whether any value is pairs that a lot keeps, or a story for each two values."""
    book, lot, values = need_lots(book, lot, values)
    return holds_of(book, lot, values, value)


def does_merge(book, lot, pair):
    """Whether some story of a lot's operations brings the two values together, any values told."""
    tables = held_tables(book[0], book[1], lot, list(range(book[0])))
    return grown_from(tables, pair, True).alike is not None


def lies_within(lot, other):
    """Whether all of a lot is in another one."""
    return all([number in other for number in lot])


def let_lots(book):
    """The lots that are let with all values, and with no operation more."""
    book = need_book(book)
    many = len(book[1])
    found = []
    for left in range(many + 1):
        for lot in lots_below(many, many - left):
            if any([lies_within(lot, other) for other in found]):
                continue
            if not all([does_merge(book, lot, pair) for pair in lots_below(book[0], 2)]):
                found.append(lot)
    return tuple(sorted(found))


def least_merging(book, pair):
    """The lots with a story that brings two values together that have no other such lot within."""
    many = len(book[1])
    found = []
    for length in range(many + 1):
        for lot in lots_below(many, length):
            if any([lies_within(other, lot) for other in found]):
                continue
            if does_merge(book, lot, pair):
                found.append(lot)
    return tuple(sorted(found))


def pair_lots(book, one, other):
    """The lots with a story that brings two values together, all values told, that have no other one within."""
    book = need_book(book)
    if not is_below(book[0], one):
        raise InvalidIndex(0)
    if not is_below(book[0], other) or other == one:
        raise InvalidIndex(1)
    return least_merging(book, (one, other))
