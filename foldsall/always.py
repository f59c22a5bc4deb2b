"""Which operations can be put into every book that is let: constants and places alone."""

from foldsall.common import is_alike, is_below, is_tuple_of, unlike_couples, value_rows
from foldsall.lots import holds_of, paper_of
from foldsall.tables import is_operation, need_operation


def narrow_book(size, one, other):
    """Operations that lead all over to one, or to other, but where they read nothing else: let for this pair alone."""
    to_one = tuple([other if value == other else one for value in range(size)])
    to_other = tuple([one if value == one else other for value in range(size)])
    both = tuple([other if row == (other, other) else one for row in value_rows(size, 2)])
    return ((1, to_one), (1, to_other), (2, both))


def let_books(size):
    """Books that are let, into one of which what is neither constant nor a place cannot be put."""
    books = [narrow_book(size, one, other) for one, other in unlike_couples(size)]
    # With two values what rises fits into the others, but beside what turns both about only if it looks at one place.
    return [((1, (1, 0)),), *books] if size == 2 else books


def whole_paper(size, operations):
    """The paper of all operations of a book with all values told."""
    return paper_of((size, operations), tuple(range(len(operations))), tuple(range(size)))


def place_answers(size, places, place):
    """The answers of the operation that is one of its places."""
    return tuple([row[place] for row in value_rows(size, places)])


def always_paper(size, operation):
    """The value or place that an operation is, or operations that are let, beside which it isn't."""
    operation = need_operation(size, operation)
    places, answers = operation
    if is_alike(answers):
        return ("value", answers[0])
    for place in range(places):
        if answers == place_answers(size, places, place):
            return ("place", place)
    for operations in let_books(size):
        word, rows = whole_paper(size, (*operations, operation))
        if word == "not":
            break
    return ("not", operations, whole_paper(size, operations)[1], rows)


def are_operations(size, value):
    """Whether any value is a tuple of one to three operations, in tuples alone."""
    if not isinstance(value, tuple) or not 1 <= len(value) <= 3:
        return False
    for operation in value:
        if not is_tuple_of(2, operation) or not isinstance(operation[1], tuple) or not is_operation(size, operation):
            return False
    return True


def does_hold(size, operations, told):
    """Whether any value is the paper of all operations of a book with all values told."""
    return holds_of((size, operations), tuple(range(len(operations))), tuple(range(size)), told)


def always_holds(size, operation, value):
    """Whether any value tells rightly where an operation can be put."""
    operation = need_operation(size, operation)
    places, answers = operation
    if is_tuple_of(2, value):
        if value[0] == "value":
            return is_below(size, value[1]) and is_alike(answers) and answers[0] == value[1]
        return (value[0] == "place" and is_below(places, value[1])
                and answers == place_answers(size, places, value[1]))
    if not is_tuple_of(4, value) or value[0] != "not" or not are_operations(size, value[1]):
        return False
    _, operations, pairs, rows = value
    return (does_hold(size, operations, ("let", pairs))
            and does_hold(size, (*operations, operation), ("not", rows)))
