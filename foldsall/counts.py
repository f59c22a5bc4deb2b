"""How many operations a whole book has, their forms, and their numbers."""

from foldsall.books import (are_sides, greatest_over, is_kept, keeping_maps, leads_pairs, need_pairs, need_whole,
                            tied_values)
from foldsall.common import (all_rows, held_answers, is_alike, is_below, is_between, is_tuple_of, power, spot_in,
                             value_rows)
from foldsall.errors import InvalidIndex, InvalidSize, InvalidTree, Refused
from foldsall.tables import need_book, need_operation


class Looks:
    """What operations of a whole book of colours look at: the tied values, the free ones, the rows at tied ones."""

    def __init__(self, size, pairs):
        self.size = size
        self.tied = tied_values(size, pairs)
        self.free = [value for value in range(size) if value not in self.tied]
        self.rows = []
        for row in value_rows(size, len(self.tied)):
            whole = {value: answer for value, answer in zip(self.tied, row)}
            if all([(whole[one], whole[other]) in pairs for one, other in pairs]):
                self.rows.append(row)

    def how_many(self, places):
        """How many operations have so many places: of none the told values."""
        many = self.size
        for least in range(places):
            many = self.size + (least + 1) * len(self.rows) * power(many, len(self.free))
        return many

    def form_of(self, places, answers):
        """The form of a table of the whole book."""
        if is_alike(answers):
            return ("told", answers[0])
        sizes = [self.size] * places
        place = 0
        while self.row_at(places, answers, place) is None:
            place += 1
        forms = [self.form_of(places - 1, held_answers(answers, sizes, held_at(places, place, value)))
                 for value in self.free]
        return ("look", place, self.row_at(places, answers, place), tuple(forms))

    def row_at(self, places, answers, place):
        """The answers at tied values of a place, if a table looks there; else None."""
        row = []
        for value in self.tied:
            part = held_answers(answers, [self.size] * places, held_at(places, place, value))
            if not is_alike(part):
                return None
            row.append(part[0])
        return tuple(row) if tuple(row) in self.rows else None

    def is_form(self, places, form):
        """Whether any value is a form of so many places."""
        if is_tuple_of(2, form):
            return form[0] == "told" and is_below(self.size, form[1])
        if not is_tuple_of(4, form) or form[0] != "look" or not is_below(places, form[1]):
            return False
        if not is_tuple_of(len(self.tied), form[2]) or not all([is_below(self.size, answer) for answer in form[2]]):
            return False
        if form[2] not in self.rows or not is_tuple_of(len(self.free), form[3]):
            return False
        return all([self.is_form(places - 1, part) for part in form[3]])

    def answers_of(self, places, form):
        """The answers of the table that has a form."""
        if form[0] == "told":
            return (form[1],) * power(self.size, places)
        _, place, row, forms = form
        parts = [self.answers_of(places - 1, part) for part in forms]
        answers = []
        for values in value_rows(self.size, places):
            if values[place] in self.tied:
                answers.append(row[self.tied.index(values[place])])
            else:
                others = [value for at, value in enumerate(values) if at != place]
                part = parts[self.free.index(values[place])]
                answers.append(part[spot_in([self.size] * (places - 1), others)])
        return tuple(answers)

    def number_of(self, places, form):
        """The number of a form among all of so many places."""
        if form[0] == "told":
            return form[1]
        number = form[1] * len(self.rows) + self.rows.index(form[2])
        for part in form[3]:
            number = number * self.how_many(places - 1) + self.number_of(places - 1, part)
        return self.size + number

    def form_at(self, places, number):
        """The form that has a number among all of so many places."""
        if number < self.size:
            return ("told", number)
        rest = number - self.size
        least = self.how_many(places - 1)
        forms = []
        for _ in self.free:
            forms.append(self.form_at(places - 1, rest % least))
            rest = rest // least
        return ("look", rest // len(self.rows), self.rows[rest % len(self.rows)], tuple(forms[::-1]))


def held_at(places, place, value):
    """The value held at one of so many places."""
    return [value if at == place else None for at in range(places)]


class SideRows:
    """The rows of two-place operations of a whole book of sides, put one behind another."""

    def __init__(self, size, pairs):
        self.size = size
        self.pairs = pairs
        self.lines = [row for row in value_rows(size, size) if is_alike(row) or leads_pairs(row, pairs)]
        self.known = {}

    def are_joined(self, one, row, other, line):
        """Whether rows at two values, of which perhaps one is first and one second, lead pairs to pairs."""
        return ((one, other) not in self.pairs
                or all([(row[first], line[second]) in self.pairs for first, second in self.pairs]))

    def ways(self, at, columns, choices):
        """In how many ways rows go on from one on.

        The columns tell what each may still be, the choices which rows each later value may have: all else
        that was put ahead tells nothing more, so what is the same in both is counted once.
        """
        if at == self.size:
            return 1
        if (at, columns, choices) not in self.known:
            many = 0
            for number in choices[0]:
                row = self.lines[number]
                left = self.columns_behind(at, columns, row)
                if left is not None:
                    many += self.ways(at + 1, left, self.choices_behind(at, choices, row))
            self.known[(at, columns, choices)] = many
        return self.known[(at, columns, choices)]

    def columns_behind(self, at, columns, row):
        """What each column may still be behind a row; None if one may be nothing."""
        left = []
        for column, value in zip(columns, row):
            fits = tuple([ends for ends in column if ends[0] == value])
            if not fits:
                return None
            left.append(tuple([ends[1:] for ends in fits]))
        return tuple(left)

    def choices_behind(self, at, choices, row):
        """Which rows each later value may still have behind a row."""
        left = []
        for step, numbers in enumerate(choices[1:]):
            other = at + 1 + step
            left.append(tuple([number for number in numbers
                               if self.are_joined(at, row, other, self.lines[number])
                               and self.are_joined(other, self.lines[number], at, row)]))
        return tuple(left)

    def how_many(self):
        """How many two-place operations there are."""
        lines = tuple(self.lines)
        # What is constant leads no pair to a pair, and is in each whole book.
        return self.size + self.ways(0, (lines,) * self.size, (tuple(range(len(lines))),) * self.size)


def need_places(most, places):
    """Raises if any value is no number of places, one to most."""
    if not is_between(1, most, places):
        raise InvalidSize("places")


def whole_count(size, pairs, places):
    """How many operations of a whole book have so many places."""
    pairs = need_whole(size, pairs)
    sides = are_sides(pairs)
    need_places(2 if sides else 4, places)
    if not sides:
        return Looks(size, pairs).how_many(places)
    if places == 1:
        return size + len(keeping_maps(size, pairs))
    return SideRows(size, pairs).how_many()


def need_colours(pairs):
    """Raises if pairs are sides."""
    if are_sides(pairs):
        raise Refused("kind")


def need_looking(size, pairs, operation):
    """The looks of a whole book of colours, and one of its operations; raises if anything is wrong."""
    pairs = need_whole(size, pairs)
    operation = need_operation(size, operation)
    need_colours(pairs)
    if not is_kept(size, pairs, operation):
        raise Refused("operation")
    return (Looks(size, pairs), operation)


def looked_form(size, pairs, operation):
    """The form of an operation of a whole book of colours: where it looks, and what it makes there."""
    looks, (places, answers) = need_looking(size, pairs, operation)
    return looks.form_of(places, answers)


def need_looks(size, pairs, places):
    """The looks of a whole book of colours; raises if the size, the pairs or the places are wrong."""
    pairs = need_whole(size, pairs)
    need_places(3, places)
    need_colours(pairs)
    return Looks(size, pairs)


def formed_operation(size, pairs, places, form):
    """The operation of so many places that has a form."""
    looks = need_looks(size, pairs, places)
    if not looks.is_form(places, form):
        raise InvalidTree(-1)
    return (places, looks.answers_of(places, form))


def nth_operation(size, pairs, places, number):
    """The operation of so many places whose form has a number."""
    looks = need_looks(size, pairs, places)
    if not is_below(looks.how_many(places), number):
        raise InvalidIndex(-1)
    return (places, looks.answers_of(places, looks.form_at(places, number)))


def operation_number(size, pairs, operation):
    """The number of the form of an operation of a whole book of colours."""
    looks, (places, answers) = need_looking(size, pairs, operation)
    return looks.number_of(places, looks.form_of(places, answers))


def need_small(size):
    """Raises if any value is neither 2 nor 3: else all operations are too many to go through."""
    if not is_between(2, 3, size):
        raise InvalidSize("size")


def joined_lines(size, pairs):
    """The answers of all two-place operations that lead pairs to pairs held at none, one or both places."""
    lines = [row for row in value_rows(size, size) if is_alike(row) or leads_pairs(row, pairs)]
    found = []
    for rows in all_rows([lines] * size):
        columns = [tuple([row[at] for row in rows]) for at in range(size)]
        if all([column in lines for column in columns]):
            answers = tuple([answer for row in rows for answer in row])
            if is_kept(size, pairs, (2, answers)):
                found.append(answers)
    return found


def whole_answers(size, pairs, places):
    """The answers of all operations of a whole book that have so many places, ascending."""
    if places == 1:
        return tuple(sorted([(value,) * size for value in range(size)] + keeping_maps(size, pairs)))
    return tuple(joined_lines(size, pairs))


def whole_operations(size, pairs, places):
    """The answers of all operations of a whole book that have so many places, ascending."""
    need_small(size)
    pairs = need_pairs(size, pairs)
    need_places(2, places)
    return whole_answers(size, pairs, places)


def joining_count(book, places):
    """How many operations of so many places can be put into a book so that some pairs are still kept."""
    book = need_book(book)
    need_small(book[0])
    need_places(2, places)
    found = {}
    for pairs in greatest_over(book):
        for answers in whole_answers(book[0], pairs, places):
            found[answers] = True
    return len(found)
