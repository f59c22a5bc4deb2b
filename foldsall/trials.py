"""Runs of programs of yes and no: whether they show all that is not constant, and how many answers are of a kind."""

from foldsall.common import (all_rows, is_alike, is_below, is_between, is_row_of, is_sequence, is_tuple_of, power,
                             value_rows)
from foldsall.errors import InvalidRuns, InvalidSize
from foldsall.twos import end_answers, is_twos_program, kind_of, lot_answers, need_kind, need_twos, written_of


def need_many(many):
    """Raises if any value is no number of inputs."""
    if not is_between(1, 4, many):
        raise InvalidSize("many")


def need_runs(many, runs):
    """A sequence of rows of so many values 0 and 1, in tuples."""
    if not is_sequence(runs):
        raise InvalidRuns(-1)
    for at, run in enumerate(runs):
        if not is_row_of(many, run) or not all([is_below(2, value) for value in run]):
            raise InvalidRuns(at)
    return [tuple(run) for run in runs]


def asked_answers(kind, many):
    """Answers of a kind, none of them all alike, such that runs are enough exactly if they show both values of each."""
    places = list(range(many))
    lots = [[place] for place in places]
    if kind == "sums":
        lots = [[place for place in places if row[place] == 1] for row in value_rows(2, many) if 1 in row]
    asked = [lot_answers("sums", many, lot) for lot in lots]
    if kind == "ands" or kind == "rising":
        asked.append(lot_answers("ands", many, places))
    if kind == "ors" or kind == "rising":
        asked.append(lot_answers("ors", many, places))
    if kind == "all":
        rows = value_rows(2, many)
        asked = [tuple([1 if row == other else 0 for other in rows]) for row in rows]
    return asked


def seen_answers(many, answers, runs):
    """The answers in some runs."""
    rows = value_rows(2, many)
    return [answers[rows.index(run)] for run in runs]


def hides(answers, many, runs):
    """Whether answers that are not all alike have just one value in some runs, or none."""
    seen = seen_answers(many, answers, runs)
    return len(seen) == 0 or is_alike(seen)


def hidden_answers(book, many, runs):
    """Some answers that programs over a book write and runs hide; None if runs are enough."""
    for answers in asked_answers(kind_of(book), many):
        if hides(answers, many, runs):
            return answers
    return None


def trials_paper(book, many, runs):
    """That runs are enough, or some program that is not constant, of which they show one value at most."""
    book = need_twos(book)
    need_many(many)
    answers = hidden_answers(book, many, need_runs(many, runs))
    return ("enough",) if answers is None else ("hides", written_of(book, answers))


def trials_hold(book, many, runs, value):
    """Whether any value tells rightly that runs are enough, or a program that they hide."""
    book = need_twos(book)
    need_many(many)
    runs = need_runs(many, runs)
    if is_tuple_of(1, value):
        return value[0] == "enough" and hidden_answers(book, many, runs) is None
    if not is_tuple_of(2, value) or value[0] != "hides":
        return False
    if not is_twos_program(book, value[1]) or len(value[1][0]) != many:
        return False
    answers = end_answers(book, value[1])
    return not is_alike(answers) and hides(answers, many, runs)


def fewest_trials(book, many):
    """How many the fewest enough runs are."""
    book = need_twos(book)
    need_many(many)
    kind = kind_of(book)
    if kind == "all":
        return power(2, many)
    return many + 1 if kind == "sums" else 2


def rising_rows(many):
    """All rising answers of so many places, ascending."""
    rows = [(0,), (1,)]
    for _ in range(many):
        rows = [low + high for low in rows for high in rows if lies_below(low, high)]
    return rows


def lies_below(one, other):
    """Whether answers are nowhere above others."""
    return all([low <= high for low, high in zip(one, other)])


def rising_many(places):
    """How many answers of so many places are rising.

    Two places more are told by those where both are 0 and where both are 1, those between by what lies between.
    """
    if places < 2:
        return places + 2
    rows = rising_rows(places - 2)
    below = {row: len([low for low in rows if lies_below(low, row)]) for row in rows}
    above = {row: len([high for high in rows if lies_below(row, high)]) for row in rows}
    many = 0
    for one, other in all_rows([rows, rows]):
        lesser = tuple([min(pair) for pair in zip(one, other)])
        greater = tuple([max(pair) for pair in zip(one, other)])
        many += below[lesser] * above[greater]
    return many


def kind_count(kind, places):
    """How many answers of so many places are of a kind."""
    need_kind(kind)
    if not is_between(1, 6, places):
        raise InvalidSize("places")
    if kind == "wires":
        return places + 2
    if kind == "nots":
        return 2 * places + 2
    if kind == "rising":
        return rising_many(places)
    if kind == "sums":
        return power(2, places + 1)
    return power(2, power(2, places)) if kind == "all" else power(2, places) + 1


def rising_answers(many):
    """All rising answers of so many places, ascending."""
    need_many(many)
    return tuple(rising_rows(many))
