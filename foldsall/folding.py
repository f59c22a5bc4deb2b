"""Kept sets: which values a register keeps, line by line, and the papers of it."""

from foldsall.common import all_rows, is_integer, is_number, is_tuple_of, spot_in
from foldsall.errors import InvalidSize
from foldsall.programs import all_sources, need_program
from foldsall.tables import need_book


def need_k(k):
    """Raises if any value is neither None nor a number from 1 on."""
    if k is not None and not (is_integer(k) and k >= 1):
        raise InvalidSize("k")


def given_values(book, source, kept):
    """What a register is given by what the registers that it reads keep."""
    size, operations = book
    word = source[0]
    if word == "list":
        return source[1]
    if word == "told":
        return (source[1],)
    if word == "either":
        return kept[source[1]] + kept[source[2]]
    answers = operations[source[1]][1]
    sizes = [size] * len(source[2])
    return tuple([answers[spot_in(sizes, row)] for row in all_rows([kept[number] for number in source[2]])])


def source_reads(source):
    """The registers that a register reads."""
    if source[0] == "either":
        return (source[1], source[2])
    return source[2] if source[0] == "of" else ()


def settled_set(size, k, values):
    """The values that are kept where these are given, ascending: all where they are more than k."""
    lot = tuple(sorted(set(values)))
    return lot if k is None or len(lot) <= k else tuple(range(size))


class Keeping:
    """Looks at registers that wait, the least one first, till none waits."""

    def __init__(self, book, sources, k):
        self.book = book
        self.sources = sources
        self.k = k
        self.kept = [() for _ in sources]
        self.looks = [0 for _ in sources]
        self.ranks = {}
        self.waits = [True for _ in sources]
        self.readers = [[] for _ in sources]
        for number, source in enumerate(sources):
            for read in source_reads(source):
                self.readers[read].append(number)
        many = 0
        while True in self.waits:
            many += 1
            self.look(self.waits.index(True), many)

    def look(self, number, rank):
        """Looks at a register; values that come now have this rank."""
        self.waits[number] = False
        self.looks[number] += 1
        given = settled_set(self.book[0], self.k, given_values(self.book, self.sources[number], self.kept))
        if given == self.kept[number]:
            return
        for value in given:
            self.ranks.setdefault((number, value), rank)
        self.kept[number] = given
        for reader in self.readers[number]:
            self.waits[reader] = True


def looked_through(book, program, k):
    """The kept sets of a program that may be wrong, and how they were found."""
    program = need_program(book, program)
    need_k(k)
    return Keeping(need_book(book), all_sources(program), k)


def kept_sets(book, program, k=None):
    """For each register the values that it keeps, ascending."""
    return tuple(looked_through(book, program, k).kept)


def folds_of(book, program):
    """The folded values of a program that is right."""
    return tuple([lot[0] if len(lot) == 1 else None for lot in Keeping(book, all_sources(program), 1).kept])


def folded_values(book, program):
    """For each register its one kept value, or None if it is open."""
    program = need_program(book, program)
    return folds_of(need_book(book), program)


def quick_sets(book, program, k=None):
    """The kept sets, and how often each register was looked at."""
    keeping = looked_through(book, program, k)
    return (tuple(keeping.kept), tuple(keeping.looks))


def kept_paper(book, program, k=None):
    """Rows of a register, a value that it keeps, and a rank above all by which it does."""
    ranks = looked_through(book, program, k).ranks
    return tuple(sorted([(number, value, ranks[(number, value)]) for number, value in ranks]))


def is_rank_row(row):
    """Whether any value is a row of three numbers."""
    return is_tuple_of(3, row) and all([is_number(part) for part in row])


def is_given(keeping, ranks, row):
    """Whether a row comes of rows of lesser ranks alone."""
    number, value, rank = row
    source = keeping.sources[number]
    kept = {at: tuple([one for one in keeping.kept[at] if ranks[(at, one)] < rank]) for at in source_reads(source)}
    given = given_values(keeping.book, source, kept)
    return value in settled_set(keeping.book[0], keeping.k, given)


def kept_holds(book, program, k, value):
    """Whether any value is such rows for just all that is kept."""
    keeping = looked_through(book, program, k)
    if not isinstance(value, tuple) or not all([is_rank_row(row) for row in value]):
        return False
    wanted = [(number, one) for number, lot in enumerate(keeping.kept) for one in lot]
    if [(number, one) for number, one, _ in value] != wanted:
        return False
    ranks = {(number, one): rank for number, one, rank in value}
    return all([is_given(keeping, ranks, row) for row in value])
