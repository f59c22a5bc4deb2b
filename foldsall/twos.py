"""Books of yes and no: of which kind their operations are, what programs over them write, and what they miss."""

from foldsall.common import Weave, all_rows, held_answers, is_alike, is_below, power, spot_in, value_rows
from foldsall.errors import InvalidIndex, InvalidKind, InvalidTable, Refused
from foldsall.folding import folds_of
from foldsall.programs import is_plain, plain_values, program_fault
from foldsall.runs import shown_of
from foldsall.tables import need_book


KINDS = ("wires", "nots", "ands", "ors", "rising", "sums", "all")
TURNED = (1, 0)
BOTH = (0, 0, 0, 1)
EITHER = (0, 1, 1, 1)
ODD = (0, 1, 1, 0)
EVEN = (1, 0, 0, 1)


def need_twos(book):
    """A book of two values."""
    book = need_book(book)
    if book[0] != 2:
        raise Refused(-1)
    return book


def need_answers(value):
    """Raises if any value is no answers of one place to four."""
    fits = isinstance(value, tuple) and len(value) in (2, 4, 8, 16) and all([is_below(2, one) for one in value])
    if not fits:
        raise InvalidTable(-1)


def need_kind(kind):
    """Raises if any value is no kind."""
    if not isinstance(kind, str) or kind not in KINDS:
        raise InvalidKind()


def places_of(answers):
    """How many places answers have."""
    return len(answers).bit_length() - 1


def way_of(answers, place):
    """How answers change if a place goes from 0 to 1, whatever the others are."""
    step = power(2, places_of(answers) - 1 - place)
    lows = [spot for spot in range(len(answers)) if spot // step % 2 == 0]
    rises = any([answers[spot] < answers[spot + step] for spot in lows])
    falls = any([answers[spot] > answers[spot + step] for spot in lows])
    if rises:
        return "both" if falls else "rises"
    return "falls" if falls else "level"


def place_way(answers, place):
    """How answers change if a place goes from 0 to 1: "level", "rises", "falls" or "both"."""
    need_answers(answers)
    if not is_below(places_of(answers), place):
        raise InvalidIndex(1)
    return way_of(answers, place)


def hung_of(answers):
    """The places on which answers hang, ascending."""
    return [place for place in range(places_of(answers)) if way_of(answers, place) != "level"]


def lot_answers(kind, places, lot):
    """For each row: whether all of a lot of places are 1, or some, or an odd number of them."""
    made = []
    for row in value_rows(2, places):
        ones = sum([row[place] for place in lot])
        if kind == "ands":
            made.append(1 if ones == len(lot) else 0)
        else:
            made.append(min(ones, 1) if kind == "ors" else ones & 1)
    return tuple(made)


def is_of(kind, answers):
    """Whether answers are of a kind."""
    hung = hung_of(answers)
    if kind == "all" or len(hung) == 0:
        return True
    if kind == "nots":
        return len(hung) == 1
    if kind == "rising" or kind == "wires":
        rises = all([way_of(answers, place) == "rises" for place in hung])
        return rises and (kind == "rising" or len(hung) == 1)
    made = lot_answers(kind, places_of(answers), hung)
    return answers == made or (kind == "sums" and answers == tuple([1 - one for one in made]))


def has_kind(kind, answers):
    """Whether answers are of a kind."""
    need_kind(kind)
    need_answers(answers)
    return is_of(kind, answers)


def kind_of(book):
    """The first kind of which all operations of a book are."""
    for kind in KINDS:
        if all([is_of(kind, answers) for _, answers in book[1]]):
            return kind
    return KINDS[-1]


def book_kind(book):
    """The first kind of which all operations are."""
    return kind_of(need_twos(book))


def all_patterns(book, many):
    """All (operation, parts): for each place a told value, or one of so many arguments."""
    parts = [("told", 0), ("told", 1)] + [("argument", at) for at in range(many)]
    return [(number, row) for number, (places, _) in enumerate(book[1]) for row in all_rows([parts] * places)]


def pattern_answers(book, pattern, many):
    """The answers of an operation for all rows of arguments."""
    number, parts = pattern
    made = []
    for row in value_rows(2, many):
        reads = [value if word == "told" else row[value] for word, value in parts]
        made.append(book[1][number][1][spot_in([2] * len(reads), reads)])
    return tuple(made)


def found_gate(book, many, wanted):
    """The first operation with parts that has the wanted answers; None if there is none."""
    for pattern in all_patterns(book, many):
        if pattern_answers(book, pattern, many) == wanted:
            return pattern
    return None


def found_square(book):
    """Values one, other, made, and a gate that has `made` just for these two; for a book of the kind "all"."""
    for one, other, made in value_rows(2, 3):
        wanted = tuple([made if row == (one, other) else 1 - made for row in value_rows(2, 2)])
        gate = found_gate(book, 2, wanted)
        if gate is not None:
            return (one, other, made, gate)
    return None


class Pen:
    """Writes rows behind some inputs, each just once, with the operations of a book of a kind."""

    def __init__(self, book, kind, many):
        self.weave = Weave(many)
        self.turner = found_gate(book, 1, TURNED)
        self.joiner = found_gate(book, 2, BOTH)
        self.parter = found_gate(book, 2, EITHER)
        self.adder = found_gate(book, 2, ODD)
        self.likener = found_gate(book, 2, EVEN)
        self.square = found_square(book) if kind == "all" else None

    def put_value(self, value):
        """The register told a value."""
        return self.weave.put_told(("told", value))

    def put_gate(self, gate, arguments):
        """The register of a gate that reads these."""
        number, parts = gate
        reads = [self.put_value(value) if word == "told" else arguments[value] for word, value in parts]
        return self.weave.put_told(("of", number, tuple(reads)))

    def turned(self, number):
        """The register that has always the other value."""
        return self.put_gate(self.turner, [number])

    def both(self, one, other):
        """The register that is 1 exactly where two are."""
        if self.joiner is not None:
            return self.put_gate(self.joiner, [one, other])
        first, second, made, gate = self.square
        one = one if first == 1 else self.turned(one)
        other = other if second == 1 else self.turned(other)
        joined = self.put_gate(gate, [one, other])
        return joined if made == 1 else self.turned(joined)

    def either(self, one, other):
        """The register that is 1 exactly where one of two is."""
        if self.parter is not None:
            return self.put_gate(self.parter, [one, other])
        return self.turned(self.both(self.turned(one), self.turned(other)))

    def odd(self, one, other):
        """The register that is 1 exactly where just one of two is."""
        if self.adder is not None:
            return self.put_gate(self.adder, [one, other])
        return self.turned(self.put_gate(self.likener, [one, other]))

    def all_of(self, numbers):
        """The register that is 1 exactly where all of some are."""
        made = numbers[0]
        for number in numbers[1:]:
            made = self.both(made, number)
        return made

    def some_of(self, numbers):
        """The register that is 1 exactly where some are."""
        made = numbers[0]
        for number in numbers[1:]:
            made = self.either(made, number)
        return made

    def odd_of(self, numbers):
        """The register that is 1 exactly where an odd number of some are."""
        made = numbers[0]
        for number in numbers[1:]:
            made = self.odd(made, number)
        return made


def least_ones(answers, hung):
    """The rows with 1, at the hung places alone, that have no other such row nowhere above; for rising answers."""
    found = []
    for row, answer in zip(value_rows(2, places_of(answers)), answers):
        lot = [place for place in hung if row[place] == 1]
        # Rows are ascending: what lies within a row stands ahead of it.
        if answer == 1 and not any([all([place in lot for place in other]) for other in found]):
            found.append(lot)
    return found


def write_rows(pen, answers, hung):
    """The register that is 1 exactly in the rows with 1, each read place by place."""
    lots = []
    for row, answer in zip(value_rows(2, places_of(answers)), answers):
        fits = all([row[place] == 0 or place in hung for place in range(len(row))])
        if answer == 1 and fits:
            lots.append(pen.all_of([place if row[place] == 1 else pen.turned(place) for place in hung]))
    return pen.some_of(lots)


def write_answers(pen, kind, answers):
    """The register with these answers, of a kind."""
    hung = hung_of(answers)
    if len(hung) == 0:
        return pen.put_value(answers[0])
    if len(hung) == 1:
        return hung[0] if way_of(answers, hung[0]) == "rises" else pen.turned(hung[0])
    if kind == "ands":
        return pen.all_of(hung)
    if kind == "ors":
        return pen.some_of(hung)
    if kind == "rising":
        return pen.some_of([pen.all_of(lot) for lot in least_ones(answers, hung)])
    if kind == "sums":
        made = pen.odd_of(hung)
        return made if answers[0] == 0 else pen.turned(made)
    return write_rows(pen, answers, hung)


def written_of(book, answers):
    """Some program with these answers over a book that is right; None if there is none."""
    kind = kind_of(book)
    if not is_of(kind, answers):
        return None
    many = places_of(answers)
    pen = Pen(book, kind, many)
    end = write_answers(pen, kind, answers)
    return (((0, 1),) * many, tuple(pen.weave.rows), (end,))


def written_program(book, answers):
    """Some program with these answers in all runs; None if there is none."""
    book = need_twos(book)
    need_answers(answers)
    return written_of(book, answers)


def is_twos_program(book, value):
    """Whether any value is a straight program with one end whose inputs have the list (0, 1)."""
    if program_fault(book, value) is not None or not is_plain(value):
        return False
    return len(value[2]) == 1 and all([values == (0, 1) for values in value[0]])


def end_answers(book, program):
    """The values of the end in all runs."""
    rows = value_rows(2, len(program[0]))
    return tuple([plain_values(book, program, row)[program[2][0]] for row in rows])


def program_writes(book, answers, value):
    """Whether any value is a program with these answers, or None where there is none."""
    book = need_twos(book)
    need_answers(answers)
    if value is None:
        return not is_of(kind_of(book), answers)
    if not is_twos_program(book, value) or len(value[0]) != places_of(answers):
        return False
    return end_answers(book, value) == answers


def is_open(book, pattern):
    """Whether a row is open if all its arguments are."""
    number, parts = pattern
    held = [value if word == "told" else None for word, value in parts]
    return not is_alike(held_answers(book[1][number][1], [2] * len(held), held))


def missed_patterns(book):
    """The gates of the rows, one or two, of a program that is constant and open; the second reads the first."""
    for pattern in all_patterns(book, 1):
        if is_open(book, pattern) and is_alike(pattern_answers(book, pattern, 1)):
            return [pattern]
    turner = found_gate(book, 1, TURNED)
    for pattern in all_patterns(book, 2):
        made = pattern_answers(book, pattern, 2)
        # The second argument is always the other than the first one.
        if is_open(book, pattern) and made[1] == made[2]:
            return [turner, pattern]
    return None


def missed_of(book):
    """Some program of the fewest rows whose end is constant and open; None if there is none."""
    if kind_of(book) not in ("sums", "all"):
        return None
    pen = Pen(book, None, 1)
    numbers = [0]
    for pattern in missed_patterns(book):
        numbers.append(pen.put_gate(pattern, numbers))
    return (((0, 1),), tuple(pen.weave.rows), (numbers[-1],))


def missed_program(book):
    """Some program of the fewest rows of operations whose one end is constant, but open; None if there is none."""
    return missed_of(need_twos(book))


def missed_rows(book):
    """The fewest rows of operations of a program whose one end is constant, but open; 0 if there is none."""
    program = missed_of(need_twos(book))
    return 0 if program is None else len([row for row in program[1] if row[0] == "of"])


def missed_holds(book, value):
    """Whether any value is a program whose end is constant, but open, or None where there is none."""
    book = need_twos(book)
    if value is None:
        return kind_of(book) not in ("sums", "all")
    if not is_twos_program(book, value):
        return False
    end = value[2][0]
    return folds_of(book, value)[end] is None and len(shown_of(book, value)[end]) == 1
