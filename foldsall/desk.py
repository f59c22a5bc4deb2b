"""A desk: what commands say is done at a bench by hand, and shown."""

from foldsall.court import court_paper
from foldsall.errors import InvalidCommand, InvalidText
from foldsall.levels import is_number_word, text_words
from foldsall.live import Live
from foldsall.passes import whole_of
from foldsall.programs import is_plain
from foldsall.reading import read_book, read_expression, read_program
from foldsall.texts import name_of, program_text


def number_of(word):
    """The number that a word tells."""
    if not is_number_word(word) or len(word) > 4:
        raise InvalidCommand()
    return int(word)


def is_register_name(word):
    """Whether a word is the name of a register."""
    return word[:1] == "r" and is_number_word(word[1:]) and len(word) <= 5


def register_of(word):
    """The register that a word names, there or not."""
    if not is_register_name(word):
        raise InvalidCommand()
    return int(word[1:])


def parted(text):
    """A text up to its first blank, and behind it; None behind it if there is no blank."""
    first, blank, rest = text.partition(" ")
    return (first, rest if blank == " " else None)


def need_part(part):
    """Raises if a part of a command isn't there."""
    if part is None:
        raise InvalidCommand()


def names_in(tree):
    """All names in a tree."""
    if tree[0] == "name":
        return [tree[1]]
    return [name for arm in tree[2] for name in names_in(arm)] if tree[0] == "of" else []


def put_tree(tree, many, rows):
    """Puts the rows of a tree behind others, arms first; tells the register of the tree."""
    if tree[0] == "name":
        return int(tree[1][1:])
    if tree[0] == "value":
        rows.append(tree_row(tree, ()))
    else:
        reads = [put_tree(arm, many, rows) for arm in tree[2]]
        rows.append(tree_row(tree, reads))
    return many + len(rows) - 1


def tree_row(tree, reads):
    """The row of a tree whose arms are these registers."""
    return ("told", tree[1]) if tree[0] == "value" else ("of", tree[1], tuple(reads))


def shown_registers(numbers):
    """The names of registers, or that there are none."""
    return " ".join([name_of(number) for number in numbers]) if len(numbers) > 0 else "none"


def shown_values(values):
    """Values with blanks between, "?" for what is open."""
    return " ".join(["?" if value is None else str(value) for value in values])


def shown_lots(lots):
    """Lots of values, one behind another."""
    return ", ".join([shown_values(lot) for lot in lots])


def program_line(lines):
    """Which of the lines of a book and a program is the program's first one."""
    for at, line in enumerate(lines):
        words = [word for word, _ in text_words(line)]
        if words[0] in ("in", "out") or (len(words) > 1 and words[1] == "="):
            return at
    raise InvalidCommand()


def read_texts(lines):
    """The book, the key and the straight program of lines."""
    at = program_line(lines)
    try:
        book, key = read_book("\n".join(lines[:at]))
        program = read_program(book, key, "\n".join(lines[at:]))
    except InvalidText:
        raise InvalidCommand()
    if not is_plain(program):
        raise InvalidCommand()
    return (book, key, program)


class Desk:
    """A bench by hand with names for its operations, told what to do and to show by strings."""

    def __init__(self):
        self.live = None
        self.key = None

    def say(self, command):
        """Does what a command says; tells what is shown."""
        if not isinstance(command, str):
            raise InvalidCommand()
        word, rest = parted(command)
        if word == "open":
            return self.begin_live(rest)
        if self.live is None:
            raise InvalidCommand()
        if word in ("put", "set", "take", "list", "ends"):
            looked = []
            for deed in self.deeds_of(word, rest):
                looked.extend(self.live.do_deed(deed))
            return shown_registers(looked)
        if word == "then" or word == "if":
            need_part(rest)
            return self.show_then(rest) if word == "then" else self.show_if(rest)
        if rest is not None:
            raise InvalidCommand()
        return self.show(word)

    def begin_live(self, rest):
        """Begins a new bench, with the book and the program that are told."""
        need_part(rest)
        lines = rest.split("\n")
        words = lines[0].split(" ")
        if len(words) != 2:
            raise InvalidCommand()
        one, other = [number_of(word) for word in words]
        book, key, program = read_texts(lines[1:])
        live = Live(book, program[0], one, other)
        for row in program[1]:
            live.do_deed(("put", row))
        live.do_deed(("ends", program[2]))
        self.live = live
        self.key = key
        return "yes"

    def tree_of(self, text):
        """The tree of an expression of registers that are there; no name alone."""
        need_part(text)
        try:
            tree = read_expression(self.live.bench.book, self.key, text)
        except InvalidText:
            raise InvalidCommand()
        if tree[0] == "name":
            raise InvalidCommand()
        for name in names_in(tree):
            if not is_register_name(name) or int(name[1:]) >= len(self.live.bench.known):
                raise InvalidCommand()
        return tree

    def rows_of(self, text):
        """The rows of an expression, arms first."""
        rows = []
        put_tree(self.tree_of(text), len(self.live.bench.known), rows)
        return rows

    def row_of(self, text):
        """The one row of an expression."""
        rows = self.rows_of(text)
        if len(rows) != 1:
            raise InvalidCommand()
        return rows[0]

    def deeds_of(self, word, rest):
        """The deeds of a command."""
        if word == "put":
            return [("put", row) for row in self.rows_of(rest)]
        if word == "ends":
            names = [] if rest is None else rest.split(" ")
            return [("ends", tuple([register_of(name) for name in names]))]
        need_part(rest)
        if word == "take":
            return [("take", register_of(rest))]
        first, further = parted(rest)
        number = register_of(first)
        need_part(further)
        if word == "set":
            return [("set", number, self.row_of(further))]
        return [("list", number, tuple([number_of(value) for value in further.split(" ")]))]

    def show_then(self, rest):
        """What was folded behind so many deeds."""
        return shown_values(self.live.folded_then(number_of(rest)))

    def show_if(self, rest):
        """How many deeds can be done if one had been another one, and what is folded then."""
        first, further = parted(rest)
        number = number_of(first)
        need_part(further)
        word, told = parted(further)
        if word not in ("put", "set", "take", "list", "ends"):
            raise InvalidCommand()
        deeds = self.deeds_of(word, told)
        if len(deeds) != 1:
            raise InvalidCommand()
        done, folded = self.live.folded_if(number, deeds[0])
        return f"{done}: {shown_values(folded)}"

    def show(self, word):
        """What a command of one word shows."""
        live = self.live
        if word == "undo" or word == "redo":
            return "yes" if (live.undo_deed() if word == "undo" else live.redo_deed()) else "no"
        if word == "program":
            return self.text_of(live.bench.program_now())
        if word == "folded":
            return shown_values(live.bench.folded_now())
        if word == "kept":
            return shown_lots(live.bench.kept_now())
        if word == "runs":
            return shown_lots(live.bench.runs_now())
        if word == "plain":
            return self.text_of(whole_of(live.plain_now()))
        if word == "court":
            return self.show_court()
        raise InvalidCommand()

    def text_of(self, program):
        """The text of a program."""
        return program_text(self.live.bench.book, self.key, program)

    def show_court(self):
        """Arrows of the book, or a story that it misses."""
        word, told = court_paper(self.live.bench.book)
        return f"arrows {shown_lots(told)}" if word == "arrows" else "story\n" + self.text_of(told)
