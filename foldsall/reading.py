"""Texts of expressions, programs and books, read word by word: the first wrong word is told."""

from foldsall.common import power
from foldsall.errors import InvalidText
from foldsall.levels import SIGNS, Words, are_figures, is_name, is_operation_name, need_key
from foldsall.tables import need_book


class Part:
    """A part of an expression: all of it, what is in brackets, or the trees behind an operation's name."""

    def __init__(self, number, many):
        self.number = number
        self.many = many
        self.done = 0
        self.signs = []


class Expressions:
    """Reads expressions over a book, as leaves and operations, each operation behind its arms."""

    def __init__(self, book, key, words):
        self.size, self.operations = book
        self.key = key
        self.words = words
        self.names = {}
        self.signs = {}
        for number, part in enumerate(key):
            if isinstance(part, str):
                self.names[part] = number
            else:
                self.signs[part[0]] = number

    def finish(self, part, found):
        """Ends a tree of a part: all signs that wait have both arms."""
        while part.signs:
            found.append(("of", part.signs.pop()))
        part.done += 1

    def read_leaf(self, parts, found, seen):
        """Reads what may stand ahead of a value or a name, and this; of the names these are seen, any if None."""
        words = self.words
        while words.now() == "(" or words.now() in self.names:
            number = self.names.get(words.now())
            many = 1
            if words.take() != "(":
                words.need("(")
                many = self.operations[number][0]
            parts.append(Part(number, many))
        word = words.now()
        if is_name(word) and (seen is None or word in seen):
            found.append(("name", words.take()))
        else:
            found.append(("value", words.take_number(0, self.size - 1)))

    def close_parts(self, parts, found):
        """Reads brackets that close behind a tree."""
        while len(parts) > 1 and parts[-1].done + 1 == parts[-1].many and self.words.does_take(")"):
            part = parts.pop()
            self.finish(part, found)
            if part.number is not None:
                found.append(("of", part.number))

    def take_sign(self, part, found):
        """Reads a sign: those ahead that bind first have both arms now."""
        number = self.signs[self.words.take()]
        _, level, side = self.key[number]
        while part.signs:
            ahead = self.key[part.signs[-1]][1]
            if ahead < level or (ahead == level and side == "right"):
                break
            found.append(("of", part.signs.pop()))
        part.signs.append(number)

    def read(self, seen):
        """Reads an expression; the names in it are seen, any if None."""
        parts = [Part(None, 1)]
        found = []
        while True:
            self.read_leaf(parts, found, seen)
            self.close_parts(parts, found)
            part = parts[-1]
            if self.words.now() in self.signs:
                self.take_sign(part, found)
            elif part.done + 1 < part.many and self.words.does_take(","):
                self.finish(part, found)
            elif len(parts) == 1:
                self.finish(part, found)
                return found
            else:
                raise InvalidText(self.words.place())

    def tree_of(self, found):
        """The tree of an expression that was read."""
        trees = []
        for item in found:
            if item[0] == "of":
                begin = len(trees) - self.operations[item[1]][0]
                item = ("of", item[1], tuple(trees[begin:]))
                del trees[begin:]
            trees.append(item)
        return trees[0]


def read_expression(book, key, text):
    """The tree of a text."""
    book = need_book(book)
    key = need_key(book, key)
    words = Words(text)
    expressions = Expressions(book, key, words)
    found = expressions.read(None)
    words.need_end()
    return expressions.tree_of(found)


class Block:
    """Rows that are read now, the names that are seen in them, and what is told ahead of them.

    `word` is that with which they end; `told` is the test of a fork, behind its first rows also these and the
    pairs' first ones, or the most and the firsts of a loop.
    """

    def __init__(self, word, names, told):
        self.word = word
        self.names = {name: names[name] for name in names}
        self.told = told
        self.rows = []


class ProgramText:
    """Reads a program line by line."""

    def __init__(self, book, key, text):
        self.size, self.operations = book
        self.words = Words(text)
        self.expressions = Expressions(book, key, self.words)
        self.many = 0
        self.lists = []
        self.blocks = [Block("out", {}, ())]

    def make(self):
        """The number of a register that is made now."""
        self.many += 1
        return self.many - 1

    def put_row(self, row):
        """Puts a row of a told value or an operation behind those that are read now."""
        self.blocks[-1].rows.append(row)
        return self.make()

    def new_name(self, others):
        """Reads a name that is seen by nobody so far, and is none of these others."""
        word = self.words.now()
        if not is_name(word) or word in self.expressions.names or word in self.blocks[-1].names or word in others:
            raise InvalidText(self.words.place())
        return self.words.take()

    def see(self, names):
        """Lets names of registers that are made now be seen."""
        for name in names:
            self.blocks[-1].names[name] = self.make()

    def read_inputs(self):
        """Reads the lines of inputs."""
        while self.words.does_take("in"):
            name = self.new_name([])
            values = list(range(self.size))
            if self.words.does_take(":"):
                values = [self.words.take_number(0, self.size - 1)]
                while self.words.now() != "\n":
                    values.append(self.words.take_number(values[-1] + 1, self.size - 1))
            self.words.need("\n")
            self.lists.append(tuple(values))
            self.see([name])

    def expression(self):
        """Reads an expression, puts its rows, and tells its register."""
        numbers = []
        for item in self.expressions.read(self.blocks[-1].names):
            if item[0] == "name":
                numbers.append(self.blocks[-1].names[item[1]])
            elif item[0] == "value":
                numbers.append(self.put_row(("told", item[1])))
            else:
                begin = len(numbers) - self.operations[item[1]][0]
                row = ("of", item[1], tuple(numbers[begin:]))
                del numbers[begin:]
                numbers.append(self.put_row(row))
        return numbers[0]

    def expression_list(self, many):
        """Reads so many expressions, None for any number from one on, and tells their registers."""
        numbers = [self.expression()]
        while len(numbers) != many and (many is not None or self.words.now() == ","):
            self.words.need(",")
            numbers.append(self.expression())
        return tuple(numbers)

    def read_if(self):
        """Reads the line of a seen fork behind its first word."""
        number = self.expression()
        self.words.need("=")
        return (number, self.words.take_number(0, self.size - 1))

    def read_loop(self):
        """Reads the first line of a loop behind its first word."""
        most = self.words.take_number(0, None) if are_figures(self.words.now()) else None
        heads = []
        firsts = []
        while not heads or self.words.does_take(","):
            heads.append(self.new_name(heads))
            self.words.need("=")
            firsts.append(self.expression())
        self.words.need("\n")
        self.see(heads)
        self.blocks.append(Block("again", self.blocks[-1].names, (most, tuple(firsts))))

    def read_else(self, given):
        """Reads what ends the first rows of a fork, behind the pairs' first ones."""
        self.words.need("else")
        self.words.need("\n")
        block = self.blocks.pop()
        told = (block.told[0], tuple(block.rows), given)
        self.blocks.append(Block("end", self.blocks[-1].names, told))

    def read_end(self, given):
        """Reads what ends the second rows of a fork, behind the pairs' second ones."""
        self.words.need("end")
        block = self.blocks.pop()
        test, firsts, ones = block.told
        names = []
        for at in range(len(ones)):
            if at > 0:
                self.words.need(",")
            names.append(self.new_name(names))
        self.words.need("\n")
        pairs = tuple([(one, other) for one, other in zip(ones, given)])
        self.blocks[-1].rows.append(("fork", test, firsts, tuple(block.rows), pairs))
        self.see(names)

    def read_again(self):
        """Reads what ends the rows of a loop."""
        most, firsts = self.blocks[-1].told
        agains = self.expression_list(len(firsts))
        self.words.need("\n")
        self.words.need("end")
        self.words.need("\n")
        block = self.blocks.pop()
        self.blocks[-1].rows.append(("loop", most, firsts, tuple(block.rows), agains))

    def read_side(self):
        """Reads what ends the rows of a fork's side."""
        block = self.blocks[-1]
        given = ()
        if block.word == "else":
            if self.words.does_take("give"):
                given = self.expression_list(None)
                self.words.need("\n")
            self.read_else(given)
            return
        if block.told[2]:
            self.words.need("give")
            given = self.expression_list(len(block.told[2]))
            self.words.need("\n")
        self.read_end(given)

    def does_end_side(self):
        """Whether the rows of a fork's side end here."""
        block = self.blocks[-1]
        if block.word == "else":
            return self.words.now() == "give" or self.words.now() == "else"
        if block.word == "end":
            return self.words.now() == ("give" if block.told[2] else "end")
        return False

    def read_line(self):
        """Reads the next row, or what ends the rows."""
        words = self.words
        if self.does_end_side():
            self.read_side()
        elif self.blocks[-1].word == "again" and words.does_take("again"):
            self.read_again()
        elif words.does_take("if"):
            test = self.read_if()
            words.need("\n")
            self.blocks.append(Block("else", self.blocks[-1].names, (test,)))
        elif words.does_take("either"):
            words.need("\n")
            self.blocks.append(Block("else", self.blocks[-1].names, (None,)))
        elif words.does_take("loop"):
            self.read_loop()
        else:
            name = self.new_name([])
            words.need("=")
            number = self.expression()
            words.need("\n")
            self.blocks[-1].names[name] = number

    def program(self):
        """Reads all."""
        self.read_inputs()
        while len(self.blocks) > 1 or not self.words.does_take("out"):
            self.read_line()
        ends = () if self.words.now() == "" else self.expression_list(None)
        self.words.need_end()
        return (tuple(self.lists), tuple(self.blocks[0].rows), ends)


def read_program(book, key, text):
    """The program of a text."""
    book = need_book(book)
    key = need_key(book, key)
    return ProgramText(book, key, text).program()


class BookText:
    """Reads a book line by line."""

    def __init__(self, text):
        self.words = Words(text)
        self.key = []
        self.operations = []
        self.words.need("size")
        self.size = self.words.take_number(2, 8)
        while len(self.operations) < 8 and self.words.does_take("\n"):
            places = self.read_head()
            self.words.need(":")
            answers = [self.words.take_number(0, self.size - 1) for _ in range(power(self.size, places))]
            self.operations.append((places, tuple(answers)))
        self.words.need_end()

    def read_head(self):
        """Reads the name or sign of an operation, and tells how many places it has."""
        word = self.words.now()
        signs = [part[0] for part in self.key if not isinstance(part, str)]
        if is_operation_name(word) and word not in self.key:
            self.key.append(self.words.take())
            return self.words.take_number(1, 3)
        if word == "" or word not in SIGNS or word in signs:
            raise InvalidText(self.words.place())
        self.words.take()
        level = self.words.take_number(1, 9)
        sides = [part[2] for part in self.key if not isinstance(part, str) and part[1] == level]
        side = self.words.now()
        if side not in ("left", "right") or (sides and side != sides[0]):
            raise InvalidText(self.words.place())
        self.key.append((word, level, self.words.take()))
        return 2


def read_book(text):
    """The book and the key of a text."""
    told = BookText(text)
    return ((told.size, tuple(told.operations)), tuple(told.key))
