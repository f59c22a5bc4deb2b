"""The fewest splits of one told program: lots that are enough, torn lots, and trees of cases."""

from foldsall.common import (all_rows, first_not_rising, is_below, is_between, is_number, is_sequence, is_tuple_of,
                             spot_in)
from foldsall.errors import InvalidLot, InvalidSize
from foldsall.folding import given_values, source_reads
from foldsall.missed import is_grounded, need_lot, need_rows
from foldsall.programs import all_count, all_sources
from foldsall.runs import shown_of
from foldsall.tables import need_book


class Ways:
    """What a program keeps, register by register, as ways to split it tell; what it shows at its ends.

    A state has for each register so far what it keeps, None where nobody looks at it any more: so states that
    differ in such ones alone are gone on with once.
    """

    def __init__(self, book, program):
        self.book = book
        self.sources = all_sources(program)
        self.shown = shown_of(book, program)
        self.ends = sorted(set(program[2]))
        self.last = list(range(len(self.sources)))
        for number, source in enumerate(self.sources):
            for read in source_reads(source):
                self.last[read] = number
        for end in self.ends:
            self.last[end] = len(self.sources)
        self.known = {}

    def given_next(self, state):
        """What the next register keeps behind a state, ascending."""
        source = self.sources[len(state)]
        key = (len(state), tuple([state[read] for read in source_reads(source)]))
        if key not in self.known:
            self.known[key] = tuple(sorted(set(given_values(self.book, source, state))))
        return self.known[key]

    def state_behind(self, state, values):
        """The state in which the next register keeps these values."""
        number = len(state)
        kept = [lot if self.last[at] > number else None for at, lot in enumerate(state)]
        return (*kept, values)

    def layers(self, lot):
        """For each register the states of possible cases behind it, each with the state ahead."""
        found = [{(): None}]
        for number in range(len(self.sources)):
            nexts = {}
            for state in found[-1]:
                values = self.given_next(state)
                for part in ([(value,) for value in values] if number in lot else [values]):
                    nexts.setdefault(self.state_behind(state, part), state)
            found.append(nexts)
        return found

    def misses(self, state):
        """All (end, value) that a state has at an end and no run shows."""
        return [(end, value) for end in self.ends for value in state[end] if value not in self.shown[end]]

    def first_miss(self, lot):
        """Some (end, value, row): what is missed, split at a lot, and a grounded row of it; None if nothing is."""
        layers = self.layers(lot)
        for state in layers[-1]:
            for end, value in self.misses(state):
                row = []
                for at in reversed(range(len(self.sources))):
                    row.append(state[at])
                    state = layers[at + 1][state]
                return (end, value, tuple(row[::-1]))
        return None

    def torn_apart(self, lot):
        """Some miss whose torn lot has nothing of a lot, and no other one within; None if there is none."""
        miss = self.first_miss(lot)
        if miss is None:
            return None
        lot = [number for number, values in enumerate(miss[2]) if len(values) == 1]
        for number in torn_lot(miss):
            further = self.first_miss([*lot, number])
            if further is not None:
                miss = further
                lot.append(number)
        return miss


def torn_lot(miss):
    """The registers with two values or more in the row of a miss."""
    return tuple([number for number, values in enumerate(miss[2]) if len(values) > 1])


def meets(lot, other):
    """Whether two lots have something in common."""
    return any([number in other for number in lot])


def lies_in(lot, other):
    """Whether all of a lot is in another one."""
    return all([number in other for number in lot])


def least_of(lots):
    """The lots without another one within; fewer numbers first, then ascending."""
    found = []
    for length, lot in sorted({(len(lot), lot) for lot in lots}):
        if not any([lies_in(other, lot) for other in found]):
            found.append(lot)
    return found


def met_by(lots, lot):
    """The least lots that meet another one, too, if those are the least that meet some."""
    met = [known for known in lots if meets(known, lot)]
    for known in lots:
        if not meets(known, lot):
            met.extend([tuple(sorted([*known, number])) for number in lot])
    return least_of(met)


class Tearing:
    """All least torn lots, each with its miss, and all least lots that are enough; found one by the other."""

    def __init__(self, book, program):
        ways = Ways(book, program)
        self.torn = {}
        self.enough = [()]
        self.proved = {}
        lot = self.next_lot()
        while lot is not None:
            miss = ways.torn_apart(lot)
            if miss is None:
                self.proved[lot] = True
            else:
                self.torn[torn_lot(miss)] = miss
                self.enough = met_by(self.enough, torn_lot(miss))
            lot = self.next_lot()

    def next_lot(self):
        """The first lot that meets all torn ones so far, and of which it isn't known that it is enough."""
        for lot in self.enough:
            if lot not in self.proved:
                return lot
        return None


def is_enough(book, program, lot):
    """Whether the ends miss nothing, split at a lot."""
    program = need_rows(book, program)
    lot = need_lot(program, lot)
    return Ways(need_book(book), program).first_miss(lot) is None


def torn_lots(book, program):
    """All torn lots without another one within, fewer registers first."""
    program = need_rows(book, program)
    return tuple(least_of(list(Tearing(need_book(book), program).torn)))


def least_splits(book, program):
    """All enough lots without another one within, fewer registers first."""
    program = need_rows(book, program)
    return tuple(Tearing(need_book(book), program).enough)


def splits_paper(book, program):
    """Some enough lot of the fewest registers, and misses whose torn lots no lot of fewer registers meets."""
    program = need_rows(book, program)
    tearing = Tearing(need_book(book), program)
    return (tearing.enough[0], tuple([tearing.torn[lot] for lot in least_of(list(tearing.torn))]))


def is_miss(book, program, shown, value):
    """Whether any value is a miss."""
    if not is_tuple_of(3, value):
        return False
    end, told, row = value
    if not is_number(end) or end not in program[2] or not is_below(book[0], told) or told in shown[end]:
        return False
    return is_grounded(book, program, (), end, told, row)


def do_meet(lots, many):
    """Whether some so many numbers meet all lots."""
    if len(lots) == 0:
        return True
    if many == 0:
        return False
    for number in lots[0]:
        if do_meet([lot for lot in lots if number not in lot], many - 1):
            return True
    return False


def splits_hold(book, program, value):
    """Whether any value is an enough lot of the fewest registers, and misses that tell so."""
    program = need_rows(book, program)
    book = need_book(book)
    if not is_tuple_of(2, value) or not isinstance(value[0], tuple) or not isinstance(value[1], tuple):
        return False
    lot, misses = value
    if first_not_rising(all_count(program), lot) is not None:
        return False
    ways = Ways(book, program)
    if not all([is_miss(book, program, ways.shown, miss) for miss in misses]):
        return False
    if ways.first_miss(lot) is not None:
        return False
    return len(lot) == 0 or not do_meet(least_of([torn_lot(miss) for miss in misses]), len(lot) - 1)


def need_apart(many, lots):
    """Raises if anything is no sequence of lots of numbers, one or more, none of them within another one."""
    if not is_sequence(lots):
        raise InvalidLot(-1)
    for at, lot in enumerate(lots):
        if not is_sequence(lot) or len(lot) == 0 or first_not_rising(many, lot) is not None:
            raise InvalidLot(at)
        if any([lies_in(other, lot) or lies_in(lot, other) for other in lots[:at]]):
            raise InvalidLot(at)


def lots_program(many, lots):
    """Some book and program with so many inputs, first, whose least torn lots are just these."""
    if not is_number(many):
        raise InvalidSize("many")
    need_apart(many, lots)
    # "It and not it" is yes in no run, and kept as yes just where it is torn.
    rows = []
    never = {}
    for number in sorted({number for lot in lots for number in lot}):
        never[number] = many + len(rows) + 1
        rows.extend([("of", 2, (number,)), ("of", 0, (number, many + len(rows)))])
    torn = []
    for lot in lots:
        torn.append(put_all(rows, many, 0, [never[number] for number in lot]))
    ends = () if len(torn) == 0 else (put_all(rows, many, 1, torn),)
    book = (2, ((2, (0, 0, 0, 1)), (2, (0, 1, 1, 1)), (1, (1, 0))))
    return (book, (((0, 1),) * many, tuple(rows), ends))


def put_all(rows, many, operation, numbers):
    """Puts rows that put some registers together by an operation of two places; tells the last one's register."""
    made = numbers[0]
    for number in numbers[1:]:
        rows.append(("of", operation, (made, number)))
        made = many + len(rows) - 1
    return made


class Counting:
    """The fewest cases behind each state: as many trees' leaves, and where they split."""

    def __init__(self, ways):
        self.going = ways
        self.fewest = {}
        self.plain = {}

    def is_plain(self, state):
        """Whether nothing is missed behind a state without any further split."""
        while len(state) < len(self.going.sources):
            state = self.going.state_behind(state, self.going.given_next(state))
        return len(self.going.misses(state)) == 0

    def can_end(self, state):
        """Whether nothing is missed behind a state if all is split."""
        if len(state) == len(self.going.sources):
            return len(self.going.misses(state)) == 0
        if state not in self.plain:
            nexts = [self.going.state_behind(state, (value,)) for value in self.going.given_next(state)]
            self.plain[state] = self.can_all_end(nexts)
        return self.plain[state]

    def can_all_end(self, states):
        """Whether nothing is missed behind any of some states if all is split."""
        for state in states:
            if not self.can_end(state):
                return False
        return True

    def count_behind(self, state):
        """The fewest leaves of a tree behind a state, and whether its next register is split; None if there is none."""
        if state not in self.fewest:
            self.fewest[state] = self.counted(state)
        return self.fewest[state]

    def counted(self, state):
        """The same, reckoned."""
        if self.is_plain(state):
            return (1, False)
        if len(state) == len(self.going.sources) or not self.can_end(state):
            return None
        values = self.going.given_next(state)
        found = self.count_behind(self.going.state_behind(state, values))
        best = None if found is None else (found[0], False)
        if len(values) == 1 or (best is not None and best[0] <= len(values)):
            return best
        many = 0
        for at, value in enumerate(values):
            part = self.count_behind(self.going.state_behind(state, (value,)))
            if part is None:
                return best
            many += part[0]
            # Each value that is left has one leaf at least.
            if best is not None and many + len(values) - at - 1 >= best[0]:
                return best
        return (many, True)

    def tree(self, state):
        """Some tree of the fewest leaves behind a state."""
        while not self.is_plain(state):
            values = self.going.given_next(state)
            if self.count_behind(state)[1]:
                return (len(state), tuple([self.tree(self.going.state_behind(state, (value,))) for value in values]))
            state = self.going.state_behind(state, values)
        return "leaf"


def fewest_cases(book, program):
    """How many leaves the least trees have whose leaves are all clean, and some such tree."""
    program = need_rows(book, program)
    counting = Counting(Ways(need_book(book), program))
    return (counting.count_behind(())[0], counting.tree(()))


def is_clean_tree(ways, state, value):
    """Whether any value is a tree behind a state whose leaves are all clean."""
    if isinstance(value, str):
        return value == "leaf" and Counting(ways).is_plain(state)
    if not is_tuple_of(2, value) or not is_between(len(state), len(ways.sources) - 1, value[0]):
        return False
    while len(state) < value[0]:
        state = ways.state_behind(state, ways.given_next(state))
    values = ways.given_next(state)
    if not is_tuple_of(len(values), value[1]):
        return False
    return all([is_clean_tree(ways, ways.state_behind(state, (one,)), tree) for one, tree in zip(values, value[1])])


def tree_holds(book, program, value):
    """Whether any value is a tree whose leaves are all clean."""
    program = need_rows(book, program)
    return is_clean_tree(Ways(need_book(book), program), (), value)


def chosen_program(many):
    """Some book of so many values and a program whose first input, split, tells which one other is to be split."""
    if not is_between(2, 4, many):
        raise InvalidSize("many")
    size = many
    operations = []
    for chosen in range(many):
        # "The first is this value, and the second is 1, and the third isn't": yes in no run that reads one twice.
        answers = [1 if row == (chosen, 1, 0) else 0 for row in all_rows([list(range(size))] * 3)]
        operations.append((3, tuple(answers)))
    either = [0] * (size * size)
    for row in ((0, 1), (1, 0), (1, 1)):
        either[spot_in([size, size], row)] = 1
    operations.append((2, tuple(either)))
    inputs = (tuple(range(size)), *[(0, 1)] * many)
    rows = [("of", chosen, (0, chosen + 1, chosen + 1)) for chosen in range(many)]
    end = put_all(rows, many + 1, many, [many + 1 + chosen for chosen in range(many)])
    return ((size, tuple(operations)), (inputs, tuple(rows), (end,)))
