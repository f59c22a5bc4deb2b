"""Programs with forks and loops: for which operations kept sets are exact there, and folding finds every constant."""

from foldsall.common import all_rows, held_answers, is_below, is_tuple_of, spot_in, unlike_couples
from foldsall.errors import InvalidIndex, InvalidSize
from foldsall.folding import Keeping, folds_of
from foldsall.programs import all_count, all_sources, program_fault
from foldsall.runs import shown_of
from foldsall.tables import hung_in, need_book, two_places


def look_of(size, operation):
    """What an operation looks at."""
    places, answers = operation
    hung = hung_in(size, places, answers)
    if len(hung) == 0:
        return ("constant", answers[0])
    if len(hung) == 1:
        held = [None if place in hung else 0 for place in range(places)]
        return ("one", hung[0], held_answers(answers, [size] * places, held))
    return ("two", *two_places(size, operation))


def looks_at(book, operation):
    """What an operation of a book looks at: nothing, one place, or some two."""
    book = need_book(book)
    if not is_below(len(book[1]), operation):
        raise InvalidIndex(-1)
    return look_of(book[0], book[1][operation])


def is_let(size, word, operation):
    """Whether an operation by itself is so that kept sets are exact, or that folding finds every constant."""
    look = look_of(size, operation)
    if look[0] != "one" or word == "exact":
        return look[0] != "two"
    return len(set(look[2])) == size


def let_part(book, word):
    """The operations by which kept sets stay exact, or folding finds every constant; ascending."""
    book = need_book(book)
    if not isinstance(word, str) or word not in ("exact", "finds"):
        raise InvalidSize("word")
    return tuple([number for number, operation in enumerate(book[1]) if is_let(book[0], word, operation)])


def forked_program(number, held, one, other):
    """A program in which a fork makes the ones or the others, read by an operation at its open places; its register."""
    rows = [("told", value) for value in held if value is not None]
    first = len(rows)
    many = len(one)
    pairs = tuple([(first + at, first + many + at) for at in range(many)])
    rows.append(("fork", None, told_values(one), told_values(other), pairs))
    reads = []
    told = 0
    pair = first + 2 * many
    for value in held:
        if value is None:
            reads.append(pair)
            pair += 1
        else:
            reads.append(told)
            told += 1
    rows.append(("of", number, tuple(reads)))
    return (((), tuple(rows), (pair,)), pair)


def told_values(values):
    """A row told its value for each of some."""
    return tuple([("told", value) for value in values])


def first_not_let(book, word):
    """The first operation that is not let, and what it looks at; None if all are."""
    for number, operation in enumerate(book[1]):
        if not is_let(book[0], word, operation):
            return (number, look_of(book[0], operation))
    return None


def crossing(size, answers):
    """Two rows of two places such that one value of each has an answer that neither row has; and this answer."""
    for one, other, far, near in all_rows([list(range(size))] * 4):
        crossed = answers[spot_in([size] * 2, (one, near))]
        shown = [answers[spot_in([size] * 2, row)] for row in ((one, far), (other, near))]
        if crossed not in shown:
            return ((one, far), (other, near), crossed)
    return None


def all_looks(book):
    """What all operations look at."""
    return tuple([look_of(book[0], operation) for operation in book[1]])


def joins_paper(book):
    """What operations look at, if kept sets are exact, or a program, a register and a value kept that no run shows."""
    book = need_book(book)
    size, operations = book
    found = first_not_let(book, "exact")
    if found is None:
        return ("exact", all_looks(book))
    number, (_, _, _, held) = found
    answers = held_answers(operations[number][1], [size] * len(held), held)
    one, other, value = crossing(size, answers)
    program, end = forked_program(number, held, one, other)
    return ("lies", program, end, value)


def meeting(size, answers, many):
    """Two rows of values, unlike at each of one or two places, with one answer."""
    for pairs in all_rows([unlike_couples(size)] * many):
        rows = [tuple([pair[side] for pair in pairs]) for side in range(2)]
        if answers[spot_in([size] * many, rows[0])] == answers[spot_in([size] * many, rows[1])]:
            return rows
    return None


def finds_paper(book):
    """What operations look at, if folding finds every constant, or a program and a register that it leaves open."""
    book = need_book(book)
    size, operations = book
    found = first_not_let(book, "finds")
    if found is None:
        return ("finds", all_looks(book))
    number, look = found
    places, answers = operations[number]
    held = look[3] if look[0] == "two" else tuple([None if at == look[1] else 0 for at in range(places)])
    left = held_answers(answers, [size] * places, held)
    one, other = meeting(size, left, held.count(None))
    program, end = forked_program(number, held, one, other)
    return ("misses", program, end)


def is_same(value, other):
    """Whether any value is the same as a paper of tuples: no bool is an integer, and no list a tuple."""
    if isinstance(other, tuple):
        return is_tuple_of(len(other), value) and all([is_same(one, two) for one, two in zip(value, other)])
    return isinstance(value, bool) == isinstance(other, bool) and value == other


def are_free(rows):
    """Whether all forks are unseen and all loops of any number, within rows too."""
    for row in rows:
        if row[0] == "fork" and (row[1] is not None or not are_free(row[2]) or not are_free(row[3])):
            return False
        if row[0] == "loop" and (row[1] is not None or not are_free(row[3])):
            return False
    return True


def is_free(book, program, number):
    """Whether any values are a free program and a register of it."""
    if program_fault(book, program) is not None or not are_free(program[1]):
        return False
    return is_below(all_count(program), number)


def joins_hold(book, value):
    """Whether any value tells rightly that kept sets are exact, or a program in which one is not."""
    book = need_book(book)
    if is_tuple_of(2, value) and value[0] == "exact":
        return first_not_let(book, "exact") is None and is_same(value[1], all_looks(book))
    if not is_tuple_of(4, value) or value[0] != "lies" or not is_below(book[0], value[3]):
        return False
    _, program, number, told = value
    if not is_free(book, program, number):
        return False
    kept = Keeping(book, all_sources(program), None).kept[number]
    return told in kept and told not in shown_of(book, program)[number]


def finds_hold(book, value):
    """Whether any value tells rightly that folding finds every constant, or a program in which it doesn't."""
    book = need_book(book)
    if is_tuple_of(2, value) and value[0] == "finds":
        return first_not_let(book, "finds") is None and is_same(value[1], all_looks(book))
    if not is_tuple_of(3, value) or value[0] != "misses":
        return False
    _, program, number = value
    if not is_free(book, program, number):
        return False
    return folds_of(book, program)[number] is None and len(shown_of(book, program)[number]) == 1
