"""Ladders: how short the programs are that bring values together, or that are constant and left open."""

from foldsall.arrows import book_tables, grown_from
from foldsall.common import (Weave, all_rows, answered, held_answers, is_alike, is_below, is_between, is_number,
                             is_tuple_of, lots_below, power)
from foldsall.court import Narrowing, story_of
from foldsall.errors import InvalidIndex, InvalidSize, Refused
from foldsall.tables import hung_in, need_book


def merging_program(book, one, other):
    """Some story with an open end that has one value in the runs of two values."""
    book = need_book(book)
    if not is_below(book[0], one):
        raise InvalidIndex(0)
    if not is_below(book[0], other) or other == one:
        raise InvalidIndex(1)
    growth = grown_from(book_tables(book), (one, other), True)
    if growth.alike is None:
        raise Refused(-1)
    weave = Weave(1)
    return story_of(book[0], weave, weave.put_grown(growth, {growth.order[0]: 0}, growth.alike))


def story_program(book):
    """Some story whose end is open and has one value in all runs."""
    narrowing = Narrowing(need_book(book))
    if not is_alike(narrowing.answers):
        raise Refused(-1)
    return narrowing.story()


def turn_book(values):
    """The book of a turn of all values, and of what leads the last one to 0 and no other one anywhere."""
    if not is_between(3, 8, values):
        raise InvalidSize("values")
    turn = tuple([(value + 1) % values for value in range(values)])
    down = tuple([value % (values - 1) for value in range(values)])
    return (values, ((1, turn), (1, down)))


def all_lots(size):
    """All lots of one value or more, ascending."""
    return sorted([lot for length in range(1, size + 1) for lot in lots_below(size, length)])


def led_lot(step, lot):
    """The values to which the values of a lot are led."""
    return tuple(sorted({step[value] for value in lot}))


def fewest_letters(size, steps):
    """For each lot the fewest steps that lead it to one value; lots from which none do are left out."""
    lots = all_lots(size)
    many = {lot: 0 for lot in lots if len(lot) == 1}
    done = 0
    while True:
        nexts = [lot for lot in lots if lot not in many and any([led_lot(step, lot) in many for step in steps])]
        if not nexts:
            return many
        done += 1
        for lot in nexts:
            many[lot] = done


class Search:
    """Goes through all lots of rows that so many lines can make, till one more makes a row of one value.

    Each lot is told by a number whose bits are its rows, with those that a further line can make.
    """

    def __init__(self, size, tables):
        self.tables = tables
        self.rows = []
        self.numbers = {}
        self.made = {}
        self.is_done = False
        first = self.number_of(tuple(range(size)))
        self.lots = {1 << first: self.grown([first], first)}

    def number_of(self, row):
        """The number of a row."""
        if row not in self.numbers:
            self.numbers[row] = len(self.rows)
            self.rows.append(row)
            self.is_done = self.is_done or is_alike(row)
        return self.numbers[row]

    def grown(self, lot, new):
        """The bits of all rows that a line makes of a lot, a new one among what it reads."""
        bits = 0
        for at, table in enumerate(self.tables):
            for numbers in all_rows([lot] * len(table.sorts)):
                if new in numbers:
                    bits = bits | self.bit_of(at, table, numbers)
        return bits

    def bit_of(self, at, table, numbers):
        """The bit of the row that a table makes of some."""
        if (at, numbers) not in self.made:
            row = answered(table.answers, table.sizes, [self.rows[number] for number in numbers])
            self.made[(at, numbers)] = 1 << self.number_of(row)
        return self.made[(at, numbers)]

    def go_on(self):
        """Puts a line more; a row of one value ends all."""
        now = {}
        for lot in self.lots:
            bits = self.lots[lot]
            known = [number for number in range(len(self.rows)) if lot >> number & 1 == 1]
            for new in range(len(self.rows)):
                wider = lot | 1 << new
                if bits >> new & 1 == 1 and wider not in now and wider != lot:
                    now[wider] = bits | self.grown([*known, new], new)
                    if self.is_done:
                        return
        self.lots = now


def single_steps(book):
    """What each operation makes of the place on which it hangs; None if one hangs on several."""
    size, operations = book
    steps = []
    for places, answers in operations:
        hung = hung_in(size, places, answers)
        if len(hung) > 1:
            return None
        if hung:
            held = [None if place in hung else 0 for place in range(places)]
            steps.append(held_answers(answers, [size] * places, held))
    return steps


def fewest_lines(book, most):
    """The fewest lines of a story that is open and has one value; None if there is none, or they are more than most."""
    book = need_book(book)
    if not is_number(most):
        raise InvalidSize("most")
    if not is_alike(Narrowing(book).answers):
        return None
    steps = single_steps(book)
    if steps is not None:
        many = fewest_letters(book[0], steps)[tuple(range(book[0]))]
        return many if many <= most else None
    search = Search(book[0], book_tables(book))
    for many in range(1, most + 1):
        if search.is_done:
            return many
        search.go_on()
    return None


def need_letters(book):
    """The answers of the operations of two answers or more, by their numbers; all have one place."""
    if not all([places == 1 for places, _ in book[1]]):
        raise Refused(-1)
    return {number: answers for number, (_, answers) in enumerate(book[1]) if not is_alike(answers)}


def shortest_word(many, letters, lot):
    """Letters that lead a lot to one value, as few as can be."""
    word = []
    while len(lot) > 1:
        for letter in letters:
            behind = led_lot(letters[letter], lot)
            if behind in many and many[behind] < many[lot]:
                break
        word.append(letter)
        lot = behind
    return tuple(word)


def word_paper(book):
    """Some shortest word that leads all values to one, with heights that tell so; or heights that tell of none."""
    book = need_book(book)
    letters = need_letters(book)
    size = book[0]
    many = fewest_letters(size, [letters[letter] for letter in letters])
    heights = tuple([(lot, many.get(lot, power(2, size))) for lot in all_lots(size)])
    whole = tuple(range(size))
    if whole not in many:
        return ("never", heights)
    return ("word", shortest_word(many, letters, whole), heights)


def are_heights(size, letters, value):
    """Whether any value tells numbers of all lots, no letter leading down by more than one."""
    lots = all_lots(size)
    if not is_tuple_of(len(lots), value) or not all([is_tuple_of(2, row) for row in value]):
        return False
    for lot, row in zip(lots, value):
        if not is_same_lot(row[0], lot) or not is_number(row[1]) or (row[1] == 0) != (len(lot) == 1):
            return False
    known = {lot: row[1] for lot, row in zip(lots, value)}
    return all([known[led_lot(letters[letter], lot)] >= known[lot] - 1 for letter in letters for lot in lots])


def is_same_lot(value, lot):
    """Whether any value is this lot."""
    return is_tuple_of(len(lot), value) and all([is_number(one) for one in value]) and value == lot


def is_word(size, letters, value):
    """Whether any value is a word that leads all values to one."""
    if not isinstance(value, tuple) or not all([is_number(letter) and letter in letters for letter in value]):
        return False
    lot = tuple(range(size))
    for letter in value:
        lot = led_lot(letters[letter], lot)
    return len(lot) == 1


def word_holds(book, value):
    """Whether any value is such a word with such heights, or heights that tell of none."""
    book = need_book(book)
    letters = need_letters(book)
    size = book[0]
    if is_tuple_of(2, value):
        return (value[0] == "never" and are_heights(size, letters, value[1])
                and whole_height(size, value[1]) == power(2, size))
    if not is_tuple_of(3, value) or value[0] != "word":
        return False
    return (is_word(size, letters, value[1]) and are_heights(size, letters, value[2])
            and whole_height(size, value[2]) == len(value[1]))


def whole_height(size, heights):
    """The number of the lot of all values."""
    return [number for lot, number in heights if len(lot) == size][0]
