"""Striking: which lines hang on an input by looking, whether looking misses nothing, and lines that no end needs."""

from foldsall.arrows import book_tables
from foldsall.common import (all_rows, answered, hangs_at, is_alike, is_below, is_number, is_tuple_of,
                             unlike_couples, value_rows)
from foldsall.errors import InvalidIndex, InvalidRest, InvalidSize
from foldsall.passes import Told, cut_fault, live_in, need_cut, plain_of
from foldsall.tables import need_book


def reached_of(book, cut, number):
    """The lines of a cut program that is right that hang on an input by looking, ascending."""
    if len(cut[0][number]) == 1:
        return ()
    told = Told(book, cut)
    reached = {("in", number): True}
    for at, (operation, readings) in enumerate(cut[1]):
        live = live_in(book, operation, told.held(readings))
        if any([readings[place] in reached for place in live]):
            reached[("line", at)] = True
    return tuple([number for word, number in reached if word == "line"])


def reached_lines(book, cut, number):
    """The lines that hang on an input by looking, ascending."""
    book = need_book(book)
    cut = need_cut(book, cut)
    if not is_below(len(cut[0]), number):
        raise InvalidIndex(-1)
    return reached_of(book, cut, number)


def live_tables(book):
    """The held operations, not dull, of which all places left are live: the others differ in places held alone."""
    return [table for table in book_tables(book)
            if all([hangs_at(table.sizes, table.answers, place) for place in range(len(table.sizes))])]


class Rests:
    """What operations make of a rest, and of an arrow beside what they make of the rest.

    `stills` has the values that the rest is led to, `arrows` the pairs that the arrow is led to, each with a table
    and what this reads there, pairs throughout; `merging` such a reason by which arrows lead to alike values.
    """

    def __init__(self, tables, rest, arrow):
        self.tables = tables
        self.stills = {(rest, rest): None}
        self.grow(self.stills, [])
        self.merging = None
        self.arrows = {arrow: None}
        self.grow(self.arrows, list(self.stills))

    def grow(self, found, beside):
        """Goes on with what is found, and with what else may be read, till nothing new comes or all is lost."""
        order = list(found)
        at = 0
        while at < len(order):
            for pair, reason in self.led(order[at], order[:at + 1] + beside):
                if len(beside) > 0 and is_alike(pair):
                    self.merging = reason
                    return
                if pair not in found:
                    found[pair] = reason
                    order.append(pair)
            at += 1

    def led(self, pair, known):
        """What tables lead a pair and known ones to, with the reasons."""
        made = []
        for table in self.tables:
            for place in range(len(table.sizes)):
                choices = [[pair] if at == place else known for at in range(len(table.sizes))]
                for pairs in all_rows(choices):
                    made.append((answered(table.answers, table.sizes, pairs), (table, pairs)))
        return made


def found_rest(book):
    """Some rest, values and arrows, ascending; None if there are none."""
    tables = live_tables(book)
    for rest in range(book[0]):
        for arrow in unlike_couples(book[0]):
            rests = Rests(tables, rest, arrow)
            if rests.merging is None:
                return (rest, tuple(sorted([one for one, _ in rests.stills])), tuple(sorted(rests.arrows)))
    return None


class Blinding:
    """Writes lines that hang on input 0, and makes them alike at one value of input 1 after another."""

    def __init__(self, book):
        self.size = book[0]
        self.tables = live_tables(book)
        runs = value_rows(self.size, 2)
        self.columns = {("in", at): tuple([run[at] for run in runs]) for at in range(2)}
        self.lines = {}
        self.last = ("in", 0)
        for rest in range(self.size):
            self.merge(rest)

    def put_line(self, table, readings):
        """Puts a line of a held table that reads these, if it isn't there; tells its reading."""
        reads = []
        at = 0
        for part in table.parts:
            if part is None:
                reads.append(readings[at])
                at += 1
            else:
                reads.append(("value", part[1]))
        line = (table.number, tuple(reads))
        if line not in self.lines:
            self.lines[line] = ("line", len(self.lines))
            made = answered(table.answers, table.sizes, [self.columns[reading] for reading in readings])
            self.columns[self.lines[line]] = made
        return self.lines[line]

    def put_pair(self, rests, known, pair):
        """Puts the lines that lead to a pair; tells the reading of it."""
        if pair not in known:
            reason = rests.stills[pair] if pair in rests.stills else rests.arrows[pair]
            known[pair] = self.put_reason(rests, known, reason)
        return known[pair]

    def put_reason(self, rests, known, reason):
        """Puts a line of a table, and those that lead to what it reads; tells its reading."""
        table, pairs = reason
        return self.put_line(table, [self.put_pair(rests, known, pair) for pair in pairs])

    def merge(self, rest):
        """Goes on till the last line has one value where input 1 is this."""
        while True:
            there = [value for at, value in enumerate(self.columns[self.last])
                     if self.columns[("in", 1)][at] == rest]
            left = sorted(set(there))
            if len(left) == 1:
                return
            arrow = (left[0], left[1])
            rests = Rests(self.tables, rest, arrow)
            self.last = self.put_reason(rests, {(rest, rest): ("in", 1), arrow: self.last}, rests.merging)


def rest_paper(book):
    """Some rest with its values and arrows, or a cut program whose end hangs on input 0 by looking alone."""
    book = need_book(book)
    found = found_rest(book)
    if found is not None:
        return ("rest", *found)
    blinding = Blinding(book)
    whole = tuple(range(book[0]))
    return ("blind", ((whole, whole), tuple(blinding.lines), (blinding.last,)))


class Columns:
    """The values of all lines of a cut program that is right, in some runs."""

    def __init__(self, book, cut, rows):
        self.size, self.operations = book
        self.source = cut
        self.rows = rows
        self.lines = []
        for line in cut[1]:
            self.lines.append(self.line_column(line, {}))

    def column(self, reading, others):
        """What is read in all runs, if some lines have other values."""
        word, number = reading
        if word == "value":
            return (number,) * len(self.rows)
        if word == "in":
            return tuple([run[number] for run in self.rows])
        return others[number] if number in others else self.lines[number]

    def line_column(self, line, others):
        """What a line has in all runs, if some lines have other values."""
        number, readings = line
        sizes = [self.size] * len(readings)
        return answered(self.operations[number][1], sizes, [self.column(reading, others) for reading in readings])

    def ends_if(self, at, value):
        """What the ends have in all runs, if a line has this value in each."""
        others = {at: (value,) * len(self.rows)}
        for later in range(at + 1, len(self.lines)):
            line = self.source[1][later]
            if any([word == "line" and number in others for word, number in line[1]]):
                column = self.line_column(line, others)
                if column != self.lines[later]:
                    others[later] = column
        return self.end_columns(others)

    def end_columns(self, others):
        """What the ends have in all runs, if some lines have other values."""
        return [self.column(end, others) for end in self.source[2]]


def is_rest(book, value):
    """Whether any value is a rest, some values and some arrows, which operations keep."""
    if not is_tuple_of(4, value) or value[0] != "rest" or not is_below(book[0], value[1]):
        return False
    _, rest, stills, arrows = value
    if not isinstance(stills, tuple) or not all([is_below(book[0], one) for one in stills]) or rest not in stills:
        return False
    if not isinstance(arrows, tuple) or len(arrows) == 0:
        return False
    if not all([is_tuple_of(2, pair) and is_below(book[0], pair[0]) and is_below(book[0], pair[1])
                and pair[0] != pair[1] for pair in arrows]):
        return False
    pairs = sorted(set([(one, one) for one in stills] + list(arrows)))
    for table in live_tables(book):
        for row in all_rows([pairs] * len(table.sizes)):
            made = answered(table.answers, table.sizes, row)
            if made not in pairs or is_alike(made) != all([is_alike(pair) for pair in row]):
                return False
    return True


def is_blind(book, value):
    """Whether any value is a cut program of two inputs whose end hangs on input 0 by looking, and in no run."""
    if cut_fault(book, value) is not None:
        return False
    lists, _, ends = value
    whole = tuple(range(book[0]))
    if lists != (whole, whole) or len(ends) != 1 or ends[0][0] != "line":
        return False
    if ends[0][1] not in reached_of(book, value, 0):
        return False
    column = Columns(book, value, value_rows(book[0], 2)).end_columns({})[0]
    return column == column[:book[0]] * book[0]


def rest_holds(book, value):
    """Whether any value is a rest with values and arrows that are kept, or a blind program."""
    book = need_book(book)
    if is_tuple_of(2, value):
        return value[0] == "blind" and is_blind(book, value[1])
    return is_rest(book, value)


def need_rest(book, paper):
    """A book; raises if any value is no rest that holds."""
    book = need_book(book)
    if not is_rest(book, paper):
        raise InvalidRest(-1)
    return book


def hang_runs(book, paper, many, number):
    """Two rows of so many values: the first arrow's for one number, the rest for all others."""
    need_rest(book, paper)
    if not is_number(many):
        raise InvalidSize("many")
    if not is_below(many, number):
        raise InvalidIndex(-1)
    _, rest, _, arrows = paper
    return tuple([(rest,) * number + (value,) + (rest,) * (many - number - 1) for value in arrows[0]])


def needless_lines(book, cut):
    """The lines that could be any value in any run and no end would change, ascending."""
    book = need_book(book)
    cut = need_cut(book, cut)
    columns = Columns(book, cut, all_rows(cut[0]))
    ends = columns.end_columns({})
    return tuple([at for at in range(len(cut[1]))
                  if all([columns.ends_if(at, value) == ends for value in range(book[0])])])


def line_runs(book, paper, cut):
    """For each line of the plain form the first arrow's values in its place, and the ends then, inputs at rest."""
    book = need_rest(book, paper)
    plain = plain_of(book, need_cut(book, cut))
    columns = Columns(book, plain, [(paper[1],) * len(plain[0])])
    one, other = paper[3][0]
    found = []
    for at in range(len(plain[1])):
        ends = [tuple([column[0] for column in columns.ends_if(at, value)]) for value in (one, other)]
        found.append((one, other, *ends))
    return tuple(found)
