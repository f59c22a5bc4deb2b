"""The court of arrows: whether folding misses nothing in all programs over a book, and what tells so."""

from foldsall.arrows import are_arrows, book_tables, grown_from, sure_pairs
from foldsall.common import Weave, is_alike, is_below, is_sequence, is_tuple_of, lots_below
from foldsall.errors import Refused
from foldsall.folding import folds_of
from foldsall.programs import is_plain, plain_values, program_fault
from foldsall.tables import hung_in, need_book


def story_of(size, weave, end):
    """The program of one input of all values with some rows and one end."""
    return ((tuple(range(size)),), tuple(weave.rows), (end,))


def end_values(book, program):
    """The values of the one end of a story, input by input."""
    return tuple([plain_values(book, program, (value,))[program[2][0]] for value in range(book[0])])


def is_story(book, program):
    """Whether any value is a straight program with one input, of all values, and one end that folding leaves open."""
    if program_fault(book, program) is not None or not is_plain(program):
        return False
    inputs, _, ends = program
    if inputs != (tuple(range(book[0])),) or len(ends) != 1:
        return False
    return folds_of(book, program)[ends[0]] is None


class Narrowing:
    """A story in the making, narrowed as long as two of its end's values can be brought together."""

    def __init__(self, book):
        self.book = book
        self.tables = book_tables(book)
        self.weave = Weave(1)
        self.end = 0
        self.answers = tuple(range(book[0]))
        while self.does_narrow():
            self.answers = end_values(book, self.story())

    def story(self):
        """The story as it is now."""
        return story_of(self.book[0], self.weave, self.end)

    def lot(self):
        """The range of the story, ascending."""
        return tuple(sorted(set(self.answers)))

    def does_narrow(self):
        """Puts a story behind that brings two of the values together; tells whether there is one."""
        lot = self.lot()
        for one, other in lots_below(len(lot), 2):
            growth = grown_from(self.tables, (lot[one], lot[other]), True)
            if growth.alike is not None:
                self.end = self.weave.put_grown(growth, {growth.order[0]: self.end}, growth.alike)
                return True
        return False


def court_paper(book):
    """Some arrows of a book, or, if there are none, some story whose end is open and has one value."""
    book = need_book(book)
    narrowing = Narrowing(book)
    if is_alike(narrowing.answers):
        return ("story", narrowing.story())
    # Two values that no open story brings together are a sure pair.
    return ("arrows", tuple(sorted(grown_from(narrowing.tables, narrowing.lot()[:2], False).found[0])))


def court_holds(book, value):
    """Whether any value is some arrows, or some story whose end is open and has one value in all runs."""
    book = need_book(book)
    if not is_tuple_of(2, value):
        return False
    if value[0] == "arrows":
        return are_arrows(book, value[1])
    return value[0] == "story" and is_story(book, value[1]) and is_alike(end_values(book, value[1]))


def ranges_of(narrowing):
    """All ranges of the fewest values, ascending."""
    growth = grown_from(narrowing.tables, narrowing.lot(), False)
    # Each open story leads unlike values of a least range to unlike ones: so these rows are ranges again.
    return tuple(sorted({tuple(sorted(row)) for row in growth.found[0]}))


def least_ranges(book):
    """The ranges of the fewest values, ascending."""
    return ranges_of(Narrowing(need_book(book)))


def range_program(book, lot):
    """Some story whose range is a least one, and which leaves the values of it as they are."""
    book = need_book(book)
    narrowing = Narrowing(book)
    if not is_sequence(lot) or not all([is_below(book[0], value) for value in lot]):
        raise Refused(-1)
    if tuple(lot) not in ranges_of(narrowing):
        raise Refused(-1)
    growth = grown_from(narrowing.tables, tuple([narrowing.answers[value] for value in lot]), False)
    end = narrowing.weave.put_grown(growth, {growth.order[0]: narrowing.end}, (0, tuple(lot)))
    return story_of(book[0], narrowing.weave, end)


def is_one_to_one(size, operation):
    """Whether an operation has one answer alone, or looks at one place alone, unlike values to unlike answers."""
    places, answers = operation
    hung = hung_in(size, places, answers)
    return len(hung) == 0 or (len(hung) == 1 and len(set(answers)) == size)


def lists_grade(book):
    """The greatest grade that the lists of inputs may have: 3 to 0."""
    book = need_book(book)
    size, operations = book
    if all([is_one_to_one(size, operation) for operation in operations]):
        return 3
    many = len(sure_pairs(book))
    if many == size * (size - 1):
        return 2
    return 1 if many > 0 else 0
