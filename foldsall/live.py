"""A bench by hand: deeds are done, taken back, done again, and looked at as if they had been other ones."""

from foldsall.bench import Bench, bench_behind, do_told
from foldsall.code import write_code
from foldsall.common import is_below, is_sequence
from foldsall.errors import FoldError, InvalidIndex
from foldsall.passes import cut_of, plain_of


def deed_in_tuples(deed):
    """A deed that was done, in tuples: only its last thing may be a list."""
    last = deed[-1]
    return (*deed[:-1], tuple(last) if is_sequence(last) else last)


class Live:
    """A bench with the deeds that were done in it; those taken back wait to be done again, the last one first."""

    def __init__(self, book, inputs, one, other):
        self.bench = Bench(book, inputs, one, other)
        self.begin = (self.bench.book, self.bench.lists, one, other)
        self.deeds = ()
        self.undone = ()

    def do_deed(self, deed):
        """Does a deed; tells the registers reckoned anew."""
        if not do_told(self.bench, deed):
            raise InvalidIndex(-1)
        self.deeds = (*self.deeds, deed_in_tuples(deed))
        self.undone = ()
        return self.bench.looked

    def bench_then(self, deeds):
        """The bench behind deeds that can be done."""
        book, inputs, one, other = self.begin
        return bench_behind(book, inputs, one, other, deeds)

    def undo_deed(self):
        """Takes back the last deed; tells whether there was one."""
        if len(self.deeds) == 0:
            return False
        self.bench = self.bench_then(self.deeds[:-1])
        self.undone = (*self.undone, self.deeds[-1])
        self.deeds = self.deeds[:-1]
        return True

    def redo_deed(self):
        """Does again the deed taken back last; tells whether there was one."""
        if len(self.undone) == 0:
            return False
        do_told(self.bench, self.undone[-1])
        self.deeds = (*self.deeds, self.undone[-1])
        self.undone = self.undone[:-1]
        return True

    def folded_then(self, number):
        """What was folded behind so many deeds."""
        if not is_below(len(self.deeds) + 1, number):
            raise InvalidIndex(-1)
        return self.bench_then(self.deeds[:number]).folded_now()

    def folded_if(self, number, deed):
        """If a deed had been another one: how many deeds, up to the first that can't be done; what is folded then."""
        if not is_below(len(self.deeds), number):
            raise InvalidIndex(-1)
        bench = self.bench_then(self.deeds[:number])
        done = number
        for told in (deed, *self.deeds[number + 1:]):
            if not can_do(bench, told):
                break
            done += 1
        return (done, bench.folded_now())

    def plain_now(self):
        """The plain form of the program, cut."""
        return plain_of(self.bench.book, cut_of(self.bench.program_now()))

    def code_now(self):
        """The code of the program."""
        return write_code(self.bench.book, self.bench.program_now())


def can_do(bench, deed):
    """Does a deed at a bench; tells whether any value is one that can be done."""
    try:
        return do_told(bench, deed)
    except FoldError:
        return False
