"""Books whose values are of several sorts, their programs, and which sort reaches which."""

from foldsall.common import (all_rows, hangs_at, held_answers, is_alike, is_below, is_between, is_row_of,
                             is_tuple_of, is_value_list, product_of, spot_in)
from foldsall.errors import InvalidList, InvalidProgram, InvalidSorted, InvalidValues


def are_sizes(value):
    """Whether any value is a tuple of one to three sizes of sorts."""
    return isinstance(value, tuple) and 1 <= len(value) <= 3 and all([is_between(2, 4, size) for size in value])


def are_sorts(sizes, value):
    """Whether any value is a tuple of sorts."""
    return isinstance(value, tuple) and all([is_below(len(sizes), sort) for sort in value])


def is_sorted_operation(sizes, value):
    """Whether any value is an operation over sorts of these sizes, in tuples alone."""
    if not is_tuple_of(3, value) or not are_sorts(sizes, value[0]) or not is_below(len(sizes), value[1]):
        return False
    sorts, sort, answers = value
    if not 1 <= len(sorts) <= 3 or not is_tuple_of(product_of([sizes[place] for place in sorts]), answers):
        return False
    return all([is_below(sizes[sort], answer) for answer in answers])


def need_sorted(value):
    """A book of sorts."""
    if not is_tuple_of(2, value) or not are_sizes(value[0]) or not isinstance(value[1], tuple) or len(value[1]) > 6:
        raise InvalidSorted(-1)
    for at, operation in enumerate(value[1]):
        if not is_sorted_operation(value[0], operation):
            raise InvalidSorted(at)
    return value


def row_sort(book, sorts, row):
    """The sort of what a row gives, behind registers of these sorts; None if it is no row there."""
    sizes, operations = book
    if not is_tuple_of(3, row):
        return None
    word, number, told = row
    if word == "told":
        fits = is_below(len(sizes), number) and is_below(sizes[number], told)
        return number if fits else None
    if word != "of" or not is_below(len(operations), number):
        return None
    places, sort, _ = operations[number]
    if not is_tuple_of(len(places), told):
        return None
    for place, spot in zip(places, told):
        if not is_below(len(sorts), spot) or sorts[spot] != place:
            return None
    return sort


def program_fault(book, program):
    """What is wrong with any value as a program over sorts, as its error tells; None if nothing is."""
    if not is_tuple_of(2, program):
        return -1
    inputs, rows = program
    if not are_sorts(book[0], inputs):
        return 0
    if not isinstance(rows, tuple):
        return 1
    sorts = list(inputs)
    for row in rows:
        sort = row_sort(book, sorts, row)
        if sort is None:
            return 1
        sorts.append(sort)
    return -1 if len(sorts) == 0 else None


def need_sorted_program(book, program):
    """Raises if any value is no program over sorts."""
    fault = program_fault(book, program)
    if fault is not None:
        raise InvalidProgram(fault)


def row_sorts(book, program):
    """The sorts of all registers of a program that is right."""
    inputs, rows = program
    sorts = list(inputs)
    for row in rows:
        sorts.append(row_sort(book, sorts, row))
    return tuple(sorts)


def program_sorts(book, program):
    """The sorts of all registers."""
    need_sorted(book)
    need_sorted_program(book, program)
    return row_sorts(book, program)


def place_sizes(book, number):
    """The sizes of the places of an operation."""
    return [book[0][sort] for sort in book[1][number][0]]


def run_sorted(book, program, values):
    """The values of all registers of a program that is right, if its inputs have these."""
    known = list(values)
    for word, number, told in program[1]:
        if word == "told":
            known.append(told)
        else:
            spot = spot_in(place_sizes(book, number), [known[read] for read in told])
            known.append(book[1][number][2][spot])
    return tuple(known)


def sorted_values(book, program, values):
    """The values of all registers, if the inputs have these."""
    need_sorted(book)
    need_sorted_program(book, program)
    inputs = program[0]
    if not is_row_of(len(inputs), values):
        raise InvalidValues(-1)
    for at, value in enumerate(values):
        if not is_below(book[0][inputs[at]], value):
            raise InvalidValues(at)
    return run_sorted(book, program, values)


def fold_sorted(book, program):
    """The folded values of a program that is right."""
    folds = [None for _ in program[0]]
    for word, number, told in program[1]:
        if word == "told":
            folds.append(told)
        else:
            held = [folds[read] for read in told]
            made = held_answers(book[1][number][2], place_sizes(book, number), held)
            folds.append(made[0] if is_alike(made) else None)
    return tuple(folds)


def sorted_folds(book, program):
    """For each register its folded value, or None: inputs are open."""
    need_sorted(book)
    need_sorted_program(book, program)
    return fold_sorted(book, program)


def kept_sorted(book, program, lists):
    """The kept sets of all registers of a program that is right, if the inputs have these lists."""
    kept = [tuple(values) for values in lists]
    for word, number, told in program[1]:
        if word == "told":
            kept.append((told,))
        else:
            sizes = place_sizes(book, number)
            answers = book[1][number][2]
            rows_read = all_rows([kept[read] for read in told])
            kept.append(tuple(sorted({answers[spot_in(sizes, row)] for row in rows_read})))
    return tuple(kept)


def sorted_kept(book, program, lists):
    """The kept sets of all registers, if the inputs have these lists."""
    need_sorted(book)
    need_sorted_program(book, program)
    inputs = program[0]
    if not is_row_of(len(inputs), lists):
        raise InvalidList(-1)
    for at, values in enumerate(lists):
        if not is_value_list(book[0][inputs[at]], values):
            raise InvalidList(at)
    return kept_sorted(book, program, lists)


def hangs_on(book, number, place):
    """Whether an operation over sorts hangs on a place."""
    return hangs_at(place_sizes(book, number), book[1][number][2], place)


def sorts_reached(book):
    """For each sort those that it reaches, ascending."""
    need_sorted(book)
    many = len(book[0])
    steps = []
    for number, (places, sort, _) in enumerate(book[1]):
        steps.extend([(own, sort) for place, own in enumerate(places) if hangs_on(book, number, place)])
    reached = []
    for sort in range(many):
        known = [sort]
        # As many rounds as sorts: a way goes through each sort once at most.
        for _ in range(many):
            known.extend([other for own, other in steps if own in known])
        reached.append(tuple(sorted(set(known))))
    return tuple(reached)


def sort_parts(book):
    """The lots of all sorts that reach one another, ascending."""
    reached = sorts_reached(book)
    parts = []
    for sort, others in enumerate(reached):
        part = tuple([other for other in others if sort in reached[other]])
        if part not in parts:
            parts.append(part)
    return tuple(sorted(parts))
