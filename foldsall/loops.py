"""Loops and seen forks: how many turns are enough, and programs that show that fewer are not."""

from foldsall.common import is_between, power, product_of
from foldsall.errors import InvalidSize
from foldsall.programs import need_program
from foldsall.tables import need_size


def enough_of(size, heads):
    """How many turns are enough for a loop with so many heads."""
    return heads * (size - 1) + 1


def need_heads(heads):
    """Raises if any value is no number of heads."""
    if not is_between(1, 8, heads):
        raise InvalidSize("heads")


def turns_enough(size, heads):
    """How many turns of a loop with so many heads are enough to show all that any number shows."""
    need_size(size)
    need_heads(heads)
    return enough_of(size, heads)


def bounded_rows(size, rows):
    """Rows in which the loops of any number are told a most."""
    bounded = []
    for row in rows:
        if row[0] == "fork":
            row = ("fork", row[1], bounded_rows(size, row[2]), bounded_rows(size, row[3]), row[4])
        elif row[0] == "loop":
            most = enough_of(size, len(row[2])) if row[1] is None else row[1]
            row = ("loop", most, row[2], bounded_rows(size, row[3]), row[4])
        bounded.append(row)
    return tuple(bounded)


def bounded_program(book, program):
    """The program whose loops of any number are told, by their heads, how many turns are enough."""
    inputs, rows, ends = need_program(book, program)
    return (inputs, bounded_rows(book[0], rows), ends)


def turns_program(size, heads):
    """Some book, a program whose loop may turn once less than is enough, a register and a value that it misses."""
    need_size(size)
    need_heads(heads)
    book = (size, ((1, tuple(list(range(1, size)) + [0])),))
    # Turn by turn one head more comes to its next value; only the last one's last value leads the row back to 0.
    row = heads + 1
    agains = tuple([row] + list(range(1, heads)))
    loop = ("loop", enough_of(size, heads) - 1, (0,) * heads, (("of", 0, (heads,)),), agains)
    return (book, ((), (("told", 0), loop), ()), row, 0)


def seen_program(size):
    """Some program over the book of no operations, a register, and a value that it keeps and no run shows."""
    need_size(size)
    # The pair is the input where this is 0, and else told 0.
    rows = (("told", 0), ("fork", (0, 0), (), (), ((0, 1),)))
    return ((((0, 1),), rows, (2,)), 2, 1)


def let_many(size, places, word):
    """How many operations of so many places lose nothing in free programs, by what is asked."""
    need_size(size)
    if not is_between(1, 3, places):
        raise InvalidSize("places")
    if not isinstance(word, str) or word not in ("exact", "finds"):
        raise InvalidSize("word")
    if word == "exact":
        return size + places * (power(size, size) - size)
    return size + places * product_of(list(range(1, size + 1)))
