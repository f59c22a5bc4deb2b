"""Folding that keeps several values: whether what is left open, or kept, is so rightly."""

from foldsall.common import (Weave, all_rows, answered, first_not_rising, is_below, is_between, is_sequence,
                             is_tuple_of, spot_in)
from foldsall.court import end_values, story_of
from foldsall.errors import InvalidSize
from foldsall.folding import Keeping, settled_set
from foldsall.programs import all_sources, is_plain, program_fault
from foldsall.tables import need_book


class Sights:
    """What registers keep, and have in the runs of a lot: at first the input and told values; grown, all registers.

    `few` is the first one that is open and has no more values than are kept.
    """

    def __init__(self, book, many, lot):
        self.size, self.operations = book
        self.many = many
        self.given = {}
        self.reasons = {}
        self.order = []
        self.few = None
        self.first = (tuple(range(self.size)), lot)
        self.take_sight(self.first, None)
        for value in range(self.size):
            self.take_sight(((value,), (value,) * len(lot)), ("told", value))

    def grow(self, till_few):
        """Takes in all that operations lead sights to, or as much until something open has few values."""
        at = 0
        while at < len(self.order) and not (till_few and self.few is not None):
            for number in range(len(self.operations)):
                self.lead(number, at)
            at += 1

    def take_sight(self, sight, reason):
        """Takes a sight in, if it is new."""
        if sight not in self.reasons:
            self.reasons[sight] = reason
            self.order.append(sight)
            if self.few is None and self.is_open(sight) and len(set(sight[1])) <= self.many:
                self.few = sight

    def is_open(self, sight):
        """Whether a sight keeps all values."""
        return len(sight[0]) == self.size

    def kept_of(self, number, lots):
        """What an operation keeps of what is kept."""
        if (number, lots) not in self.given:
            answers = self.operations[number][1]
            sizes = [self.size] * len(lots)
            values = [answers[spot_in(sizes, row)] for row in all_rows(lots)]
            self.given[(number, lots)] = settled_set(self.size, self.many, values)
        return self.given[(number, lots)]

    def led_to(self, number, sights):
        """The sight that an operation leads some to."""
        row = answered(self.operations[number][1], [self.size] * len(sights), [sight[1] for sight in sights])
        return (self.kept_of(number, tuple([sight[0] for sight in sights])), row)

    def lead(self, number, at):
        """Takes in what an operation makes of sights up to this one, this one among them."""
        places = self.operations[number][0]
        ahead = self.order[:at]
        for place in range(places):
            # The new one at this place, and at no place ahead: so nothing is made twice.
            choices = [ahead] * place + [[self.order[at]]] + [[*ahead, self.order[at]]] * (places - place - 1)
            for sights in all_rows(choices):
                self.take_sight(self.led_to(number, sights), ("of", number, sights))

    def story(self, goal):
        """The story whose end has a sight."""
        needed = {goal: True}
        for sight in reversed(self.order):
            reason = self.reasons[sight]
            if sight in needed and reason is not None and reason[0] == "of":
                for other in reason[2]:
                    needed[other] = True
        weave = Weave(1)
        numbers = {self.first: 0}
        for sight in self.order:
            if sight in needed and sight not in numbers:
                line = self.reasons[sight]
                if line[0] == "of":
                    line = ("of", line[1], tuple([numbers[other] for other in line[2]]))
                numbers[sight] = weave.put_line(line)
        return story_of(self.size, weave, numbers[goal])


def grown_sights(book, many, lot, till_few):
    """The sights of a lot; as many as are needed if they end with something open of few values."""
    sights = Sights(book, many, lot)
    sights.grow(till_few)
    return sights


def need_many(book, many):
    """Raises if any value is no number from 1 on below how many values a book has."""
    if not is_between(1, book[0] - 1, many):
        raise InvalidSize("many")


def several_paper(book, many):
    """Some lot of which open registers keep all values apart, or a story that is open and has few values."""
    book = need_book(book)
    need_many(book, many)
    whole = grown_sights(book, many, tuple(range(book[0])), True)
    if whole.few is not None:
        return ("few", whole.story(whole.few))
    ranges = [tuple(sorted(set(sight[1]))) for sight in whole.order if whole.is_open(sight)]
    # What is open and has the fewest values is kept apart by all that is open.
    lot = min([(len(values), values) for values in ranges])[1][:many + 1]
    return ("apart", lot, tuple(sorted(grown_sights(book, many, lot, False).order)))


def is_lot(size, value):
    """Whether any value is an ascending tuple of unlike values."""
    return isinstance(value, tuple) and first_not_rising(size, value) is None


def are_sights(book, many, lot, value):
    """Whether any value is a lot of sights in the runs of a lot, and all that operations lead them to."""
    size, operations = book
    if not isinstance(value, tuple):
        return False
    for at, sight in enumerate(value):
        if not is_tuple_of(2, sight) or not is_lot(size, sight[0]) or not is_tuple_of(len(lot), sight[1]):
            return False
        if not 1 <= len(sight[0]) <= many and len(sight[0]) != size:
            return False
        if not all([is_below(size, one) for one in sight[1]]) or (at > 0 and sight <= value[at - 1]):
            return False
    known = {sight: True for sight in value}
    sights = Sights(book, many, lot)
    if not all([sight in known for sight in sights.order]):
        return False
    for number, (places, _) in enumerate(operations):
        if not all([sights.led_to(number, row) in known for row in all_rows([value] * places)]):
            return False
    return True


def story_kept(book, many, program):
    """What the end of any value as a story keeps, and its values in all runs; None if it is no story."""
    if program_fault(book, program) is not None or not is_plain(program):
        return None
    inputs, _, ends = program
    if inputs != (tuple(range(book[0])),) or len(ends) != 1:
        return None
    kept = Keeping(book, all_sources(program), many).kept[ends[0]]
    return (kept, tuple(sorted(set(end_values(book, program)))))


def several_holds(book, many, value):
    """Whether any value is some lot kept apart by some sights, or some story that is open and has few values."""
    book = need_book(book)
    need_many(book, many)
    if is_tuple_of(2, value) and value[0] == "few":
        told = story_kept(book, many, value[1])
        return told is not None and len(told[0]) == book[0] and len(told[1]) <= many
    if not is_tuple_of(3, value) or value[0] != "apart":
        return False
    _, lot, sights = value
    if not is_lot(book[0], lot) or len(lot) != many + 1 or not are_sights(book, many, lot, sights):
        return False
    return all([len(kept) < book[0] or len(set(row)) == len(row) for kept, row in sights])


def is_right(size, many, kept, row):
    """Whether what is kept is just what some runs show, more than so many values if all are."""
    if len(kept) == size:
        return len(set(row)) > many
    return kept == tuple(sorted(set(row)))


def right_paper(book, many):
    """Some lot and sights in which just what is shown is kept, or a story of which this isn't so."""
    book = need_book(book)
    need_many(book, many)
    lot = tuple(range(book[0]))
    sights = grown_sights(book, many, lot, True)
    for kept, row in sights.order:
        if not is_right(book[0], many, kept, row):
            return ("wrong", sights.story((kept, row)))
    return ("right", lot, tuple(sorted(sights.order)))


def right_holds(book, many, value):
    """Whether any value is some lot and sights in which just what is shown is kept, or a story otherwise."""
    book = need_book(book)
    need_many(book, many)
    if is_tuple_of(2, value) and value[0] == "wrong":
        told = story_kept(book, many, value[1])
        return told is not None and not is_right(book[0], many, told[0], told[1])
    if not is_tuple_of(3, value) or value[0] != "right":
        return False
    _, lot, sights = value
    if not is_lot(book[0], lot) or not are_sights(book, many, lot, sights):
        return False
    return all([is_right(book[0], many, kept, row) for kept, row in sights])


def wrong_sizes(book):
    """All numbers of values kept with which something is left open wrongly, ascending."""
    book = need_book(book)
    values = tuple(range(book[0]))
    return tuple([many for many in range(1, book[0]) if grown_sights(book, many, values, True).few is not None])


def sizes_book(values, sizes):
    """The book whose wrong sizes are just these."""
    if not is_between(2, 8, values):
        raise InvalidSize("values")
    if not is_sequence(sizes) or first_not_rising(values - 1, sizes) is not None or 0 in sizes:
        raise InvalidSize("sizes")
    operations = []
    for size in sizes:
        answers = [value if value < size else size for value in range(values)]
        answers[size] = size - 1
        operations.append((1, tuple(answers)))
    return (values, tuple(operations))
