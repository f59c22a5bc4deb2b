"""Whole books: all operations that keep some pairs of values, and the greatest such books."""

from foldsall.arrows import are_led_within, held_tables
from foldsall.common import (all_rows, is_below, is_between, is_row_of, is_sequence, lots_below,
                             unlike_couples, value_rows)
from foldsall.errors import InvalidArrows, InvalidSize
from foldsall.tables import need_book, need_operation


def need_few(size):
    """Raises if any value is no size of this chapter."""
    if not is_between(2, 4, size):
        raise InvalidSize("size")


def need_pairs(size, pairs):
    """A row of unlike pairs of unlike values, in tuples."""
    if not is_sequence(pairs) or len(pairs) == 0:
        raise InvalidArrows(-1)
    ahead = []
    for at, pair in enumerate(pairs):
        if not is_row_of(2, pair) or not is_below(size, pair[0]) or not is_below(size, pair[1]):
            raise InvalidArrows(at)
        if pair[0] == pair[1] or tuple(pair) in ahead:
            raise InvalidArrows(at)
        ahead.append(tuple(pair))
    return tuple(ahead)


def need_whole(size, pairs):
    """The pairs of a whole book, in tuples; raises if the size or the pairs are wrong."""
    need_few(size)
    return need_pairs(size, pairs)


def is_kept(size, pairs, operation):
    """Whether an operation keeps the pairs, held at any values at any of its places."""
    return are_led_within(held_tables(size, [operation], [0], list(range(size))), pairs)


def leads_pairs(row, pairs):
    """Whether a map leads each pair to a pair."""
    return all([(row[one], row[other]) in pairs for one, other in pairs])


def keeping_maps(size, pairs):
    """All maps that lead each pair to a pair, ascending."""
    return [row for row in value_rows(size, size) if leads_pairs(row, pairs)]


def parted_pairs(size, maps):
    """All pairs of unlike values that none of the maps brings to one value, ascending."""
    return tuple([(one, other) for one, other in unlike_couples(size)
                  if not any([row[one] == row[other] for row in maps])])


def are_sides(pairs):
    """Whether no value is first in a pair and second in one."""
    seconds = [other for _, other in pairs]
    return not any([one in seconds for one, _ in pairs])


def tied_values(size, pairs):
    """The tied values: of sides those of pairs, of colours those of apart pairs; ascending."""
    tied = pairs if are_sides(pairs) else parted_pairs(size, keeping_maps(size, pairs))
    return [value for value in range(size) if any([value in pair for pair in tied])]


def keeps_pairs(size, pairs, operation):
    """Whether an operation keeps the pairs."""
    pairs = need_whole(size, pairs)
    return is_kept(size, pairs, need_operation(size, operation))


def kept_maps(size, pairs):
    """All maps that lead each pair to a pair, ascending."""
    return tuple(keeping_maps(size, need_whole(size, pairs)))


def apart_pairs(size, pairs):
    """All pairs of unlike values that no kept map brings to one value, ascending."""
    return parted_pairs(size, keeping_maps(size, need_whole(size, pairs)))


def pairs_kind(size, pairs):
    """The word of the pairs: `sides` if no value is first and second in them, else `colours`."""
    return "sides" if are_sides(need_whole(size, pairs)) else "colours"


def clique_pairs(size, pairs):
    """All pairs within the cliques of some pairs, ascending."""
    fewest = min([len(set(row)) for row in keeping_maps(size, pairs)])
    found = {}
    for lot in lots_below(size, fewest):
        couples = [(one, other) for one in lot for other in lot if one != other]
        if all([couple in pairs for couple in couples]):
            for couple in couples:
                found[couple] = True
    return tuple(sorted(found))


def grown(size, pairs):
    """The pairs of the greatest book in which the whole book of some pairs lies."""
    if are_sides(pairs):
        return tuple(sorted({(one, other) for one, _ in pairs for _, other in pairs}))
    now = parted_pairs(size, keeping_maps(size, pairs))
    while True:
        behind = parted_pairs(size, keeping_maps(size, clique_pairs(size, now)))
        if behind == now:
            return now
        now = behind


def grown_pairs(size, pairs):
    """Of sides all pairs of a first and a second; of colours the apart pairs of cliques, until they stay."""
    return grown(size, need_whole(size, pairs))


def keeps_some(size, maps):
    """Whether some pairs of unlike values are kept by all of these maps."""
    good = unlike_couples(size)
    while True:
        # A pair goes as soon as a map leads it to no pair that is still there.
        left = [(one, other) for one, other in good if all([(row[one], row[other]) in good for row in maps])]
        if len(left) == len(good):
            return len(left) > 0
        good = left


def further_map(size, pairs):
    """The least map outside of the whole book that can be put into it, some pairs still kept; None if none can."""
    pairs = need_whole(size, pairs)
    maps = keeping_maps(size, pairs)
    sides = are_sides(pairs)
    wider = grown(size, pairs)
    for row in value_rows(size, size):
        # Constant maps are in each whole book, and lead no pair to a pair: neither way are they told here.
        # Of sides all that the whole book keeps lies between the two sides; of colours maps alone tell.
        fits = leads_pairs(row, wider) if sides else keeps_some(size, [*maps, row])
        if fits and not leads_pairs(row, pairs):
            return row
    return None


def side_pairs(size):
    """All pairs of a first and a second, for all two sides, each and the same turned round once."""
    found = []
    for sides in value_rows(3, size):
        firsts = [value for value in range(size) if sides[value] == 0]
        seconds = [value for value in range(size) if sides[value] == 1]
        # Turned round they tell the same book: the lesser one of both has the lesser first value.
        if firsts and seconds and firsts[0] < seconds[0]:
            found.append(tuple([(one, other) for one in firsts for other in seconds]))
    return found


def colour_pairs(size):
    """All pairs of colours that are their own grown pairs."""
    edges = lots_below(size, 2)
    found = []
    # Apart pairs go both ways round, so no other pairs can be their own.
    for chosen in all_rows([[False, True]] * len(edges)):
        couples = [edge for edge, there in zip(edges, chosen) if there]
        pairs = tuple(sorted(couples + [(other, one) for one, other in couples]))
        if pairs and grown(size, pairs) == pairs:
            found.append(pairs)
    return found


def all_greatest(size):
    """All pairs, ascending, that are their own grown pairs; of sides and the same turned round the first."""
    need_few(size)
    return tuple(sorted(side_pairs(size) + colour_pairs(size)))


def greatest_over(book):
    """Those of all greatest that all operations of a book keep."""
    size, operations = need_book(book)
    need_few(size)
    tables = held_tables(size, operations, list(range(len(operations))), list(range(size)))
    return tuple([pairs for pairs in all_greatest(size) if are_led_within(tables, pairs)])
