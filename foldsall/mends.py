"""The fewest operations to strike until folding misses nothing, and the values that may be told."""

from foldsall.arrows import are_led_within, grown_from, held_tables, is_pair_lot
from foldsall.common import first_not_rising, is_integer, is_row_of, is_tuple_of, lots_below
from foldsall.errors import InvalidPrices
from foldsall.lots import brings_together, does_merge, is_closed, lies_within, merging_story, paper_of
from foldsall.tables import need_book


def need_prices(book, prices):
    """A price from 1 on for each operation of a book, in a tuple."""
    if not is_row_of(len(book[1]), prices):
        raise InvalidPrices(-1)
    for at, price in enumerate(prices):
        if not is_integer(price) or price < 1:
            raise InvalidPrices(at)
    return tuple(prices)


def price_of(prices, lot):
    """The prices of a lot of operations, in all."""
    return sum([prices[number] for number in lot])


def others_of(book, lot):
    """All operations of a book but those of a lot, ascending."""
    return tuple([number for number in range(len(book[1])) if number not in lot])


def is_mended(book, struck):
    """Whether nothing is missed if these operations are struck."""
    left = others_of(book, struck)
    return not all([does_merge(book, left, pair) for pair in lots_below(book[0], 2)])


def cheapest_lot(book, prices):
    """The price of the cheapest operations whose striking mends, and these."""
    many = len(book[1])
    priced = [(price_of(prices, lot), lot) for length in range(many + 1) for lot in lots_below(many, length)]
    for price, lot in sorted(priced):
        if is_mended(book, lot):
            break
    return (price, lot)


def fewest_operations(book, left, pair):
    """Some of these operations without any of which no story of the rest of them brings a pair together."""
    now = left
    for number in left:
        fewer = tuple([other for other in now if other != number])
        if does_merge(book, fewer, pair):
            now = fewer
    return now


def strike_tree(book, prices, price, pair, struck):
    """The tree of what is to be struck until no story brings a pair together, down to this price."""
    if price_of(prices, struck) >= price:
        return ("struck", struck)
    lot = fewest_operations(book, others_of(book, struck), pair)
    tables = held_tables(book[0], book[1], lot, list(range(book[0])))
    story = merging_story(book[0], grown_from(tables, pair, True))
    trees = [strike_tree(book, prices, price, pair, tuple(sorted([*struck, number]))) for number in used_in(story)]
    return ("story", story, tuple(trees))


def used_in(program):
    """The operations that a straight program has, ascending."""
    return sorted({row[1] for row in program[1] if row[0] == "of"})


def fewest_strikes(book, prices):
    """The price of what is to be struck, this, pairs that all others keep, and trees that tell that no less mends."""
    book = need_book(book)
    prices = need_prices(book, prices)
    price, lot = cheapest_lot(book, prices)
    pairs = paper_of(book, others_of(book, lot), tuple(range(book[0])))[1]
    trees = [strike_tree(book, prices, price, pair, ()) for pair in lots_below(book[0], 2)]
    return (price, lot, pairs, tuple(trees))


def is_strike_tree(book, prices, price, pair, struck, value):
    """Whether any value is a tree of what is to be struck until no story brings a pair together."""
    if is_tuple_of(2, value):
        return (value[0] == "struck" and is_lot_of(book, value[1]) and value[1] == struck
                and price_of(prices, struck) >= price)
    if not is_tuple_of(3, value) or value[0] != "story":
        return False
    _, program, trees = value
    if not brings_together(book, others_of(book, struck), tuple(range(book[0])), (*pair, program), pair):
        return False
    numbers = used_in(program)
    if not is_tuple_of(len(numbers), trees):
        return False
    for number, tree in zip(numbers, trees):
        if not is_strike_tree(book, prices, price, pair, tuple(sorted([*struck, number])), tree):
            return False
    return True


def is_lot_of(book, value):
    """Whether any value is an ascending tuple of numbers of a book's operations."""
    return isinstance(value, tuple) and first_not_rising(len(book[1]), value) is None


def strikes_hold(book, prices, value):
    """Whether any value tells rightly what is to be struck."""
    book = need_book(book)
    prices = need_prices(book, prices)
    if not is_tuple_of(4, value):
        return False
    price, lot, pairs, trees = value
    if not is_lot_of(book, lot) or not is_integer(price) or price != price_of(prices, lot):
        return False
    tables = held_tables(book[0], book[1], others_of(book, lot), list(range(book[0])))
    if not is_pair_lot(book[0], pairs) or not are_led_within(tables, pairs):
        return False
    couples = lots_below(book[0], 2)
    if not is_tuple_of(len(couples), trees):
        return False
    return all([is_strike_tree(book, prices, price, pair, (), tree) for pair, tree in zip(couples, trees)])


def let_constants(book):
    """The greatest closed lots of values that are let with all operations, ascending."""
    book = need_book(book)
    numbers = others_of(book, ())
    found = []
    for left in range(book[0] + 1):
        for values in lots_below(book[0], book[0] - left):
            if any([lies_within(values, other) for other in found]) or not is_closed(book, numbers, values):
                continue
            if paper_of(book, numbers, values)[0] == "let":
                found.append(values)
    return tuple(sorted(found))
