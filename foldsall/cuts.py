"""Operations that nobody knows: which registers are to be split, whatever the operations of a shape are."""

from foldsall.common import (Parting, first_not_rising, is_below, is_integer, is_number, is_row_of, is_sequence,
                             is_tuple_of)
from foldsall.errors import InvalidIndex, InvalidLot, InvalidShape
from foldsall.joins import is_same
from foldsall.tables import need_size


UP = "up"
DOWN = "down"
ANY = "any"
NONE = "none"


def is_place(many, value):
    """Whether any value is a place that reads one of so many registers."""
    if not is_row_of(2, value) or not is_below(many, value[0]):
        return False
    return isinstance(value[1], str) and value[1] in (UP, DOWN, ANY, NONE)


def need_shape(value):
    """A shape, in tuples."""
    if not is_row_of(2, value) or not is_number(value[0]) or not is_sequence(value[1]):
        raise InvalidShape(-1)
    inputs, rows = value
    for at, row in enumerate(rows):
        if not is_sequence(row) or len(row) > 3 or not all([is_place(inputs + at, place) for place in row]):
            raise InvalidShape(at)
    return (inputs, tuple([tuple([(number, word) for number, word in row]) for row in rows]))


def shape_count(shape):
    """How many registers a shape has."""
    return shape[0] + len(shape[1])


def need_shape_lot(shape, lot):
    """A lot of registers of a shape, as a tuple."""
    if not is_sequence(lot):
        raise InvalidLot(-1)
    at = first_not_rising(shape_count(shape), lot)
    if at is not None:
        raise InvalidLot(at)
    return tuple(lot)


def need_shape_ends(shape, size, ends):
    """A shape and ends, in tuples; raises if these or the size are wrong."""
    shape = need_shape(shape)
    need_size(size)
    return (shape, need_shape_lot(shape, ends))


def all_readings_of(shape):
    """For each register its readings, ascending: (reader, place, word)."""
    found = [[] for _ in range(shape_count(shape))]
    for at, row in enumerate(shape[1]):
        for place, (number, word) in enumerate(row):
            if word != NONE:
                found[number].append((shape[0] + at, place, word))
    return found


def leading(readings, end):
    """For each register whether it is the end or has a way to it."""
    leads = [number == end for number in range(len(readings))]
    for number in reversed(range(len(readings))):
        leads[number] = leads[number] or any([leads[reader] for reader, _, _ in readings[number]])
    return leads


def leading_to_some(readings, ends):
    """For each register whether it is one of the ends or has a way to one."""
    known = [leading(readings, end) for end in ends]
    return [any([leads[number] for leads in known]) for number in range(len(readings))]


def turned_signs(signs, word):
    """The signs that a way can have behind a further reading, if it can have these ahead."""
    if word == ANY:
        return (-1, 1)
    return tuple(sorted([-sign for sign in signs])) if word == DOWN else signs


def are_unlike(signs, others):
    """Whether one of two ways can be odd and the other even."""
    return len(signs) == 2 or signs != others


class Lenses:
    """Two ways from a bottom, gone on with side by side, always the one that has come less far: so they never meet
    but where both stand at once. A state is the register and the signs of each way; each is kept with the state
    ahead, and the readings by which its ways go on.
    """

    def __init__(self, readings, bottom):
        self.readings = readings
        self.reasons = {}
        self.waits = []
        for at, first in enumerate(readings[bottom]):
            for second in readings[bottom][:at]:
                one = (first[0], turned_signs((1,), first[2]))
                other = (second[0], turned_signs((1,), second[2]))
                self.take((*one, *other), None, (first, second))
        at = 0
        while at < len(self.waits):
            self.go_on(self.waits[at])
            at += 1

    def take(self, state, ahead, steps):
        """Takes a state in, if it is new."""
        if state not in self.reasons:
            self.reasons[state] = (ahead, steps)
            self.waits.append(state)

    def go_on(self, state):
        """Goes on with the way that has come less far; not where both have met."""
        one, signs, other, others = state
        for reading in self.readings[min(one, other)] if one != other else []:
            if one < other:
                now = (reading[0], turned_signs(signs, reading[2]), other, others)
                self.take(now, state, (reading, None))
            else:
                now = (one, signs, reading[0], turned_signs(others, reading[2]))
                self.take(now, state, (None, reading))

    def lens(self, size, leads):
        """The two ways of some lens to what is led to; None if there is none."""
        for state in self.waits:
            one, signs, other, others = state
            if one == other and leads[one] and (size > 2 or are_unlike(signs, others)):
                return self.ways(state)
        return None

    def ways(self, state):
        """The two ways that lead to a state, as tuples of readings."""
        ways = ([], [])
        while state is not None:
            state, steps = self.reasons[state]
            for way, reading in zip(ways, steps):
                if reading is not None:
                    way.append(reading[:2])
        return (tuple(ways[0][::-1]), tuple(ways[1][::-1]))


def bottoms_of(shape, size, ends):
    """The bottoms of lenses to some of the ends, ascending."""
    readings = all_readings_of(shape)
    leads = leading_to_some(readings, ends)
    return [number for number in range(len(readings)) if Lenses(readings, number).lens(size, leads) is not None]


def lens_bottoms(shape, size, ends):
    """The bottoms of lenses to some of the ends, ascending."""
    shape, ends = need_shape_ends(shape, size, ends)
    return tuple(bottoms_of(shape, size, ends))


def reached_without(shape, readings, lot):
    """The registers that ways from inputs reach without those of a lot."""
    reached = {number: True for number in range(shape[0]) if number not in lot}
    for number in range(len(readings)):
        if number in reached:
            for reader, _, _ in readings[number]:
                if reader not in lot:
                    reached[reader] = True
    return reached


def cuts_off(shape, bottoms, lot):
    """Whether each way from an input to a bottom has a register of a lot."""
    reached = reached_without(shape, all_readings_of(shape), lot)
    return not any([number in reached for number in bottoms])


def is_cut(shape, size, ends, lot):
    """Whether each way from an input to a bottom has a register of a lot."""
    shape, ends = need_shape_ends(shape, size, ends)
    lot = need_shape_lot(shape, lot)
    return cuts_off(shape, bottoms_of(shape, size, ends), lot)


def few_readings(readings, leads, number):
    """The readings of a register whose reader is led to the end, ascending."""
    return tuple([(reader, place) for reader, place, _ in readings[number] if leads[reader]])


def gate_signs(readings, leads, number):
    """The registers and signs up to the first gate behind a register; None if there is none."""
    signs = {number: 1}
    told = [(number, 1)]
    while True:
        now = told[-1][0]
        for reader, _, word in readings[now]:
            if leads[reader]:
                sign = -signs[now] if word == DOWN else signs[now]
                if word == ANY or signs.setdefault(reader, sign) != sign:
                    return None
        waiting = sorted([other for other in signs if other > now])
        if len(waiting) == 0:
            return None
        told.append((waiting[0], signs[waiting[0]]))
        if len(waiting) == 1:
            return tuple(told)


def need_register(shape, end, number):
    """Raises if one of both is no register of a shape."""
    if not is_below(shape_count(shape), end):
        raise InvalidIndex(0)
    if not is_below(shape_count(shape), number):
        raise InvalidIndex(1)


def lens_paper(shape, size, end, number):
    """The few readings of a register that lead to an end, or a lens, or the signs up to a gate."""
    shape = need_shape(shape)
    need_size(size)
    need_register(shape, end, number)
    readings = all_readings_of(shape)
    leads = leading(readings, end)
    few = few_readings(readings, leads, number)
    if len(few) < 2:
        return ("few", few)
    lens = Lenses(readings, number).lens(size, leads)
    if lens is None:
        return ("gate", gate_signs(readings, leads, number))
    return ("lens", *lens)


def is_way(shape, number, leads, value):
    """Whether any value is a way from a register, as a tuple of readings, to what is led to an end."""
    if not isinstance(value, tuple) or len(value) == 0:
        return False
    readings = all_readings_of(shape)
    for step in value:
        if not is_tuple_of(2, step) or not is_number(step[0]) or not is_number(step[1]):
            return False
        if step not in [reading[:2] for reading in readings[number]]:
            return False
        number = step[0]
    return leads[number]


def way_signs(shape, way):
    """The signs that a way can have."""
    signs = (1,)
    for reader, place in way:
        signs = turned_signs(signs, shape[1][reader - shape[0]][place][1])
    return signs


def is_lens(shape, size, leads, number, ways):
    """Whether any two values are the ways of a lens from a register."""
    if not all([is_way(shape, number, leads, way) for way in ways]):
        return False
    one, other = [[reader for reader, _ in way] for way in ways]
    if ways[0][0] == ways[1][0] or one[-1] != other[-1]:
        return False
    if any([reader in other for reader in one[:-1]]) or one[-1] in other[:-1]:
        return False
    return size > 2 or are_unlike(way_signs(shape, ways[0]), way_signs(shape, ways[1]))


def are_signs(many, number, value):
    """Whether any value is some ascending (register, sign), from a register with 1 to a later one."""
    if not isinstance(value, tuple) or len(value) < 2:
        return False
    for row in value:
        if not is_tuple_of(2, row) or not is_integer(row[1]) or row[1] not in (1, -1):
            return False
    return value[0] == (number, 1) and first_not_rising(many, [row[0] for row in value]) is None


def leads_to_gate(readings, leads, value):
    """Whether what is told of each register but the last tells all readings by which it leads to the end."""
    signs = {number: sign for number, sign in value}
    for number, sign in value[:-1]:
        for reader, _, word in readings[number]:
            if leads[reader] and (word == ANY or signs.get(reader) != (-sign if word == DOWN else sign)):
                return False
    return leads[value[-1][0]]


def lens_holds(shape, size, end, number, value):
    """Whether any value is all readings, fewer than two, or a lens, or the signs up to a gate."""
    shape = need_shape(shape)
    need_size(size)
    need_register(shape, end, number)
    readings = all_readings_of(shape)
    leads = leading(readings, end)
    few = few_readings(readings, leads, number)
    if is_tuple_of(3, value):
        return value[0] == "lens" and is_lens(shape, size, leads, number, value[1:])
    if not is_tuple_of(2, value):
        return False
    if value[0] == "few":
        return len(few) < 2 and is_same(value[1], few)
    if value[0] != "gate" or size > 2 or len(few) < 2 or not are_signs(len(readings), number, value[1]):
        return False
    return leads_to_gate(readings, leads, value[1])


def parting_of(shape, size, ends):
    """The ways apart of a shape with ends."""
    shape, ends = need_shape_ends(shape, size, ends)
    nexts = [[reader for reader, _, _ in steps] for steps in all_readings_of(shape)]
    return Parting(nexts, list(range(shape[0])), bottoms_of(shape, size, ends))


def cut_paper(shape, size, ends):
    """Some cut of the fewest registers, and as many ways from inputs to bottoms, none in two of them."""
    parting = parting_of(shape, size, ends)
    return (parting.cut(False), parting.ways())


def nearest_cuts(shape, size, ends):
    """The cuts of the fewest registers that have the least near side, and the greatest."""
    parting = parting_of(shape, size, ends)
    return (parting.cut(False), parting.cut(True))


def is_register_way(shape, bottoms, value):
    """Whether any value is a way from an input to a bottom, told by its registers."""
    if not isinstance(value, tuple) or first_not_rising(shape_count(shape), value) is not None:
        return False
    if len(value) == 0 or value[0] >= shape[0] or value[-1] not in bottoms:
        return False
    readings = all_readings_of(shape)
    steps = list(zip(value, value[1:]))
    return all([next_one in [reader for reader, _, _ in readings[number]] for number, next_one in steps])


def cut_holds(shape, size, ends, value):
    """Whether any value is a cut, and as many ways from inputs to bottoms, none in two of them."""
    shape, ends = need_shape_ends(shape, size, ends)
    if not is_tuple_of(2, value) or not isinstance(value[0], tuple) or not is_tuple_of(len(value[0]), value[1]):
        return False
    lot, ways = value
    bottoms = bottoms_of(shape, size, ends)
    if first_not_rising(shape_count(shape), lot) is not None or not cuts_off(shape, bottoms, lot):
        return False
    if not all([is_register_way(shape, bottoms, way) for way in ways]):
        return False
    met = [number for way in ways for number in way]
    return len(set(met)) == len(met)
