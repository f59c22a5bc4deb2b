"""Runs that are enough: whether alike runs, or some runs, show all that is kept, and what few values tell."""

from foldsall.arrows import book_tables
from foldsall.boxes import are_closed_rightly, are_right_rows, are_rows
from foldsall.common import (Growth, Weave, all_rows, answered, is_below, is_integer, is_number, is_row_of, is_sequence,
                             is_tuple_of, is_value_list, lots_below, spot_in)
from foldsall.errors import InvalidList, InvalidRuns, InvalidSize
from foldsall.folding import Keeping
from foldsall.missed import need_place, need_rows
from foldsall.programs import all_sources, is_plain, moved_numbers, moved_rows, plain_values, program_fault
from foldsall.spread import Spread, need_list, need_most
from foldsall.tables import need_book


def is_number_list(value):
    """Whether any value is a list of any numbers."""
    if not is_sequence(value) or len(value) == 0 or not all([is_number(one) for one in value]):
        return False
    return all([one < other for one, other in zip(value, value[1:])])


def alike_of(lists):
    """All alike runs of some lists, ascending."""
    unlike = []
    for values in lists:
        if values not in unlike:
            unlike.append(values)
    spots = [unlike.index(values) for values in lists]
    return [tuple([row[spot] for spot in spots]) for row in all_rows(unlike)]


def alike_runs(lists):
    """All runs in which inputs of one list have one value, ascending."""
    if not is_sequence(lists):
        raise InvalidList(-1)
    for at, values in enumerate(lists):
        if not is_number_list(values):
            raise InvalidList(at)
    return tuple(alike_of([tuple(values) for values in lists]))


def same_inputs(book, program):
    """The program in which the first input of each list stands for all of it."""
    inputs, rows, ends = need_rows(book, program)
    unlike = []
    for values in inputs:
        if values not in unlike:
            unlike.append(values)
    names = [unlike.index(values) for values in inputs] + [len(unlike) + at for at in range(len(rows))]
    return (tuple(unlike), moved_rows(names, rows), moved_numbers(names, ends))


def alike_run(book, program, number, value):
    """The first alike run that shows a value at a register; None if there is none."""
    program = need_rows(book, program)
    book = need_book(book)
    need_place(book, program, number, value)
    for run in alike_of(program[0]):
        if plain_values(book, program, run)[number] == value:
            return run
    return None


def need_lists(book, lists, are_unlike):
    """Lists of values of a book, unlike ones if they are to be, in tuples."""
    if not is_sequence(lists):
        raise InvalidList(-1)
    found = []
    for at, values in enumerate(lists):
        if not is_value_list(book[0], values) or (are_unlike and tuple(values) in found):
            raise InvalidList(at)
        found.append(tuple(values))
    return tuple(found)


def reading_apart(values, spread):
    """A program that reads each row of a lie by an input of its own, a run, and the value that only it shows."""
    table, rows, answer = spread.lie
    for spots in all_rows([list(range(len(values)))] * len(rows)):
        reads = [row[spot] for row, spot in zip(rows, spots)]
        if table.answers[spot_in(table.sizes, reads)] == answer:
            break
    weave = Weave(len(rows))
    numbers = [weave.put_grown(spread, {spread.order[0]: at}, (0, row)) for at, row in enumerate(rows)]
    end = weave.put_table(table, numbers)
    program = ((values,) * len(rows), tuple(weave.rows), (end,))
    return ("more", program, tuple([values[spot] for spot in spots]), answer)


def alike_paper(book, lists, most):
    """For each list its rows, if alike runs show all; or a program and a run that shows more; or that it is bound."""
    book = need_book(book)
    lists = need_lists(book, lists, True)
    need_most(most)
    spreads = [Spread(book, [values], most, True) for values in lists]
    for values, spread in zip(lists, spreads):
        if spread.lie is not None:
            return reading_apart(values, spread)
    if any([spread.is_bound for spread in spreads]):
        return ("bound",)
    return ("enough", tuple([spread.lot(len(values)) for values, spread in zip(lists, spreads)]))


def is_end_program(book, value):
    """Whether any value is a straight program with one end."""
    return program_fault(book, value) is None and is_plain(value) and len(value[2]) == 1


def end_value(book, program, run):
    """The value of the end in a run."""
    return plain_values(book, program, run)[program[2][0]]


def shows_more(book, lists, program, run, value):
    """Whether any values are a program of one list, a run, and a value that its end has there, but in no alike run."""
    if not is_end_program(book, program) or len(program[0]) == 0 or program[0][0] not in lists:
        return False
    if program[0] != (program[0][0],) * len(program[0]) or not is_tuple_of(len(program[0]), run):
        return False
    if not all([is_number(one) and one in program[0][0] for one in run]) or not is_below(book[0], value):
        return False
    if end_value(book, program, run) != value:
        return False
    return value not in [end_value(book, program, alike) for alike in alike_of(program[0])]


def alike_holds(book, lists, value):
    """Whether any value is right rows for each list, or a program and a run that shows more than alike ones."""
    book = need_book(book)
    lists = need_lists(book, lists, True)
    if is_tuple_of(4, value):
        return value[0] == "more" and shows_more(book, lists, value[1], value[2], value[3])
    if not is_tuple_of(2, value) or value[0] != "enough" or not is_tuple_of(len(lists), value[1]):
        return False
    return all([are_right_rows(book, values, rows) for values, rows in zip(lists, value[1])])


def need_list_runs(lists, runs):
    """Unlike runs, one or more, in tuples."""
    if not is_sequence(runs) or len(runs) == 0:
        raise InvalidRuns(-1)
    found = []
    for at, run in enumerate(runs):
        if not is_row_of(len(lists), run):
            raise InvalidRuns(at)
        if not all([is_number(one) and one in values for one, values in zip(run, lists)]) or tuple(run) in found:
            raise InvalidRuns(at)
        found.append(tuple(run))
    return found


def input_rows(lists, runs):
    """For each input its value in each run."""
    return [tuple([run[at] for run in runs]) for at in range(len(lists))]


def lacking(lists, rows):
    """Some (input, value) of its list that its row doesn't have; None if there is none."""
    for number, values in enumerate(lists):
        for value in values:
            if value not in rows[number]:
                return (number, value)
    return None


def paper_of_runs(book, lists, runs, most):
    """The rows over runs, if they are enough; or a program and a value kept and not shown; or that it is bound."""
    rows = input_rows(lists, runs)
    lack = lacking(lists, rows)
    if lack is not None:
        return ("less", (lists, (), (lack[0],)), lack[1])
    spread = Spread(book, rows, most, True)
    if spread.is_bound:
        return ("bound",)
    if spread.lie is None:
        return ("enough", spread.lot(len(runs)))
    weave = Weave(len(lists))
    starts = {(0, row): number for number, row in enumerate(rows)}
    end = weave.put_lie(spread, starts, spread.lie)
    return ("less", (lists, tuple(weave.rows), (end,)), spread.lie[2])


def runs_paper(book, lists, runs, most):
    """Whether runs show all that is kept in all programs whose inputs have just these lists."""
    book = need_book(book)
    lists = need_lists(book, lists, False)
    runs = need_list_runs(lists, runs)
    need_most(most)
    return paper_of_runs(book, lists, runs, most)


def are_enough_rows(book, lists, runs, value):
    """Whether any value is a closed lot of rows over runs, with each input's, which has all its list."""
    rows = input_rows(lists, runs)
    if lacking(lists, rows) is not None or not are_rows(book[0], len(runs), value):
        return False
    rows.extend([(one,) * len(runs) for one in range(book[0])])
    return all([row in value for row in rows]) and are_closed_rightly(book, value)


def runs_hold(book, lists, runs, value):
    """Whether any value is rows over runs that are enough, or a program and a value that is kept and not shown."""
    book = need_book(book)
    lists = need_lists(book, lists, False)
    runs = need_list_runs(lists, runs)
    if is_tuple_of(2, value):
        return value[0] == "enough" and are_enough_rows(book, lists, runs, value[1])
    if not is_tuple_of(3, value) or value[0] != "less":
        return False
    _, program, told = value
    if not is_end_program(book, program) or program[0] != lists or not is_below(book[0], told):
        return False
    if told not in Keeping(book, all_sources(program), None).kept[program[2][0]]:
        return False
    return told not in [end_value(book, program, run) for run in runs]


def fewest_runs(book, lists, most):
    """The first of the fewest runs that are enough; or that there are none, or that it is bound."""
    book = need_book(book)
    lists = need_lists(book, lists, False)
    need_most(most)
    every = all_rows(lists)
    for many in range(1, len(every) + 1):
        for spots in lots_below(len(every), many):
            runs = tuple([every[spot] for spot in spots])
            paper = paper_of_runs(book, lists, runs, most)
            if paper[0] == "enough":
                return ("fewest", runs)
            if paper[0] == "bound":
                return paper
    return ("none",)


class LotAnswers:
    """All answers of operations to lots of values, each reckoned once."""

    def __init__(self):
        self.known = {}

    def lot_of(self, word, answers, size, lots):
        """All answers, ascending; the word tells the answers apart from others."""
        key = (word, lots)
        if key not in self.known:
            sizes = [size] * len(lots)
            self.known[key] = tuple(sorted({answers[spot_in(sizes, row)] for row in all_rows(lots)}))
        return self.known[key]


def does_hide(sight, kept):
    """Whether a sight has no more than so many values in its row, but more in its lot."""
    return len(set(sight[0])) <= kept < len(sight[1])


class Tellings(Growth):
    """Sights that operations make of some, till nothing new comes, till one hides something, or they are too many.

    `hidden` is the first that hides more than `kept` values.
    """

    def __init__(self, book, values, part, kept, most):
        Growth.__init__(self, 1, book_tables(book))
        self.size = book[0]
        self.kept = kept
        self.hidden = None
        self.lots = LotAnswers()
        self.put_sight((part, values), None)
        at = 0
        while at < len(self.order) and not self.is_over(most) and self.hidden is None:
            for number, table in enumerate(self.tables):
                self.lead_sights(number, table, self.order[at][1])
            self.done[0] += 1
            at += 1
        self.is_bound = self.hidden is None and self.is_over(most)

    def is_over(self, most):
        """Whether sights are more than may be."""
        return len(self.order) + self.size > most

    def put_sight(self, sight, reason):
        """Takes a sight in, if it is new; to read one of one value is to be held at it."""
        if len(sight[1]) > 1:
            self.take_row(0, sight, reason)
            if self.hidden is None and does_hide(sight, self.kept):
                self.hidden = sight

    def lead_sights(self, number, table, sight):
        """Takes in what a table makes of sights done before and this one, this one among them."""
        for sights in self.choices_with(table, 0, sight):
            row = answered(table.answers, table.sizes, [row for row, _ in sights])
            lot = self.lots.lot_of(number, table.answers, self.size, tuple([lot for _, lot in sights]))
            self.put_sight((row, lot), (table, sights))

    def all_sights(self, many):
        """All sights with rows of so many values, those of one value too, ascending."""
        alike = [((value,) * many, (value,)) for value in range(self.size)]
        return tuple(sorted(self.found[0] + alike))


def need_kept(kept):
    """Raises if any value is no integer from 1 on."""
    if not is_integer(kept) or kept < 1:
        raise InvalidSize("kept")


def need_part(book, values, part):
    """A list of a book, and a list of some of its values, in tuples."""
    values = need_list(book, values)
    part = need_list(book, part)
    if not all([value in values for value in part]):
        raise InvalidList(-1)
    return (values, part)


def telling_paper(book, values, part, kept, most):
    """Whether runs at part of a list's values tell all registers of few values: sights, or a program, or bound."""
    book = need_book(book)
    values, part = need_part(book, values, part)
    need_kept(kept)
    need_most(most)
    tellings = Tellings(book, values, part, kept, most)
    if tellings.is_bound:
        return ("bound",)
    if tellings.hidden is None:
        return ("tells", tellings.all_sights(len(part)))
    weave = Weave(1)
    end = weave.put_grown(tellings, {tellings.order[0]: 0}, (0, tellings.hidden))
    return ("hides", ((values,), tuple(weave.rows), (end,)))


def is_sight(size, many, value):
    """Whether any value is a sight with a row of so many values."""
    if not is_tuple_of(2, value) or not is_tuple_of(many, value[0]) or not isinstance(value[1], tuple):
        return False
    return all([is_below(size, one) for one in value[0]]) and is_value_list(size, value[1])


def are_closed_sights(book, sights):
    """Whether operations make of sights such sights alone."""
    size, operations = book
    known = {sight: True for sight in sights}
    lots = LotAnswers()
    for number, (places, answers) in enumerate(operations):
        for chosen in all_rows([sights] * places):
            row = answered(answers, [size] * places, [row for row, _ in chosen])
            lot = lots.lot_of(number, answers, size, tuple([lot for _, lot in chosen]))
            if (row, lot) not in known:
                return False
    return True


def are_telling(book, values, part, kept, value):
    """Whether any value is a closed lot of sights, ascending, of which none hides anything."""
    if not isinstance(value, tuple) or not all([is_sight(book[0], len(part), sight) for sight in value]):
        return False
    if any([one >= other for one, other in zip(value, value[1:])]) or (part, values) not in value:
        return False
    if not all([((one,) * len(part), (one,)) in value for one in range(book[0])]):
        return False
    return not any([does_hide(sight, kept) for sight in value]) and are_closed_sights(book, value)


def telling_holds(book, values, part, kept, value):
    """Whether any value is a closed lot of sights that hide nothing, or a program whose end keeps more than is told."""
    book = need_book(book)
    values, part = need_part(book, values, part)
    need_kept(kept)
    if not is_tuple_of(2, value):
        return False
    if value[0] == "tells":
        return are_telling(book, values, part, kept, value[1])
    if value[0] != "hides" or not is_end_program(book, value[1]) or value[1][0] != (values,):
        return False
    lot = Keeping(book, all_sources(value[1]), None).kept[value[1][2][0]]
    return does_hide(([end_value(book, value[1], (one,)) for one in part], lot), kept)


def telling_parts(book, values, kept, most):
    """All parts of a list that tell so, no lesser part of which does; or that it is bound."""
    book = need_book(book)
    values = need_list(book, values)
    need_kept(kept)
    need_most(most)
    found = []
    for length in range(1, len(values) + 1):
        for spots in lots_below(len(values), length):
            part = tuple([values[spot] for spot in spots])
            tellings = Tellings(book, values, part, kept, most)
            if tellings.is_bound:
                return ("bound",)
            is_least = not any([all([value in part for value in other]) for other in found])
            if tellings.hidden is None and is_least:
                found.append(part)
    return ("least", tuple(sorted(found)))
