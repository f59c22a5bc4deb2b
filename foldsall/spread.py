"""Kept sets of programs with one input of a told list: whether they are exact, whatever the program."""

from foldsall.arrows import book_tables
from foldsall.boxes import are_right_rows, does_lie, right_pairs
from foldsall.common import (Growth, Weave, answered, is_alike, is_integer, is_tuple_of, is_value_list, lots_below,
                             power, unshown)
from foldsall.errors import InvalidList, InvalidSize
from foldsall.tables import need_book


def need_list(book, values):
    """A list of values of a book, as a tuple."""
    if not is_value_list(book[0], values):
        raise InvalidList(-1)
    return tuple(values)


def need_most(most):
    """Raises if any value is no integer from 1 on."""
    if not is_integer(most) or most < 1:
        raise InvalidSize("most")


class Spread(Growth):
    """Rows of unlike values that operations make of some, gone on with till nothing new comes.

    It ends at the first lie (a table, rows, and an answer that is not shown) where these are looked for, and where
    the rows, those of one value throughout too, are more than may be.
    """

    def __init__(self, book, starts, most, is_looking):
        Growth.__init__(self, 1, book_tables(book))
        self.size = book[0]
        self.is_looking = is_looking
        self.lie = None
        for start in starts:
            self.put_row(start, None)
        at = 0
        while at < len(self.order) and not self.is_over(most) and self.lie is None:
            for table in self.tables:
                self.lead(table, 0, self.order[at][1])
            self.done[0] += 1
            at += 1
        self.is_bound = self.lie is None and self.is_over(most)

    def is_over(self, most):
        """Whether rows are more than may be."""
        return len(self.order) + self.size > most

    def put_row(self, row, reason):
        """Takes a row in, if it is new; to read one of one value throughout is to be held at it."""
        if not is_alike(row):
            self.take_row(0, row, reason)

    def lead(self, table, sort, row):
        """Takes in what a table makes of rows done before and this one, this one among them."""
        for rows in self.choices_with(table, sort, row):
            if self.is_looking and self.lie is None:
                answer = unshown(table.answers, table.sizes, rows)
                if answer is not None:
                    self.lie = (table, rows, answer)
            self.put_row(answered(table.answers, table.sizes, rows), (table, rows))

    def lot(self, many):
        """All rows of so many values, those of one value throughout too, ascending."""
        alike = [(value,) * many for value in range(self.size)]
        return tuple(sorted(self.found[0] + alike))


def list_rows(book, values, most):
    """The least lot of rows with a list, those of one value, and what operations make of rows; or that it is bound."""
    book = need_book(book)
    values = need_list(book, values)
    need_most(most)
    spread = Spread(book, [values], most, False)
    return ("bound",) if spread.is_bound else spread.lot(len(values))


def list_paper(book, values, most):
    """The rows of a list, if it is right, or a program and a value that its end keeps and no run shows."""
    book = need_book(book)
    values = need_list(book, values)
    need_most(most)
    spread = Spread(book, [values], most, True)
    if spread.is_bound:
        return ("bound",)
    if spread.lie is None:
        return ("exact", spread.lot(len(values)))
    weave = Weave(1)
    end = weave.put_lie(spread, {spread.order[0]: 0}, spread.lie)
    return ("lies", ((values,), tuple(weave.rows), (end,)), spread.lie[2])


def list_holds(book, values, value):
    """Whether any value is a right lot of rows, or a program and a value that its end keeps and no run shows."""
    book = need_book(book)
    values = need_list(book, values)
    if is_tuple_of(2, value):
        return value[0] == "exact" and are_right_rows(book, values, value[1])
    if not is_tuple_of(3, value) or value[0] != "lies":
        return False
    return does_lie(book, values, value[1], value[2])


def is_right_list(book, values):
    """Whether nothing lies in any program with one input of a list."""
    return Spread(book, [values], power(book[0], len(values)), True).lie is None


def right_lists(book):
    """All right lists, of fewer values first, then ascending."""
    book = need_book(book)
    if book[0] > 4:
        raise InvalidSize("values")
    lots = [lot for length in range(1, book[0] + 1) for lot in lots_below(book[0], length)]
    return tuple([lot for lot in lots if is_right_list(book, lot)])


def all_right(book):
    """Whether all lists are right."""
    book = need_book(book)
    return len(right_pairs(book)) == len(lots_below(book[0], 2))
