"""[7], [8]: reading expressions, books and programs; the first wrong word of texts that cannot be read."""

import itertools
import random
import unittest

from foldsall.errors import InvalidBook, InvalidKey, InvalidText
from foldsall.levels import expression_text
from foldsall.reading import read_book, read_expression, read_program
from foldsall.texts import book_text, program_text
from tests.helpers import AND, ANYTHING, LEAST, MOST, NOT, OR, TURN, XOR, Fails, has_lists, in_lists, no_rows_of
from tests.test_levels import all_trees, name, of, value
from tests.test_programs import random_programs
from tests.test_texts import Spelled, key_of, row_registers

BOOK = (2, (AND, OR, XOR, NOT))
KEY = (("&", 3, "left"), ("|", 2, "right"), ("^", 3, "left"), "not")
KEPT = ("in", "if", "either", "else", "end", "give", "loop", "again", "out", "size", "left", "right")
# What may stand next wherever a text can go on: tried in this order, so that it ends.
NEXT = (")", "0", "1", "\n", "else", "end", "again", "out", ",", "=", "(", ":", "zz", "zy", "zx", "left", "right", "2", "give",
        "size")


def fault(function, *arguments):
    """Where a text is wrong; None if it can be read."""
    try:
        function(*arguments)
    except InvalidText as error:
        return error.at
    return None


def finished(read, text):
    """A text that can be read and begins with this one, word by word; None if none is found."""
    for _ in range(200):
        if fault(read, text) is None:
            return text
        going = [more for more in (text + " " + word for word in NEXT) if fault(read, more) in (None, len(more))]
        if not going:
            return None
        text = going[0]
    return None


def wrong_words(words, extra, dice, many):
    """Texts with a word put in, taken out, or in the place of another; or that end too early."""
    for _ in range(many):
        at = dice.randrange(len(words))
        yield words[:at]
        yield words[:at] + words[at + 1:]
        word = dice.choice(extra + words)
        yield words[:at] + [word] + words[at:]
        yield words[:at] + [word] + words[at + 1:]


class Stacks:
    """Whether words begin some expression: all ways to read them at once, each a stack of what is still to come."""

    def __init__(self, book, key):
        self.values = [str(number) for number in range(book[0])]
        self.places = {part: operation[0] for part, operation in zip(key, book[1]) if isinstance(part, str)}
        self.signs = [part[0] for part in key if not isinstance(part, str)]

    def opened(self, stack):
        """What stands on a stack, with the words that may come first on top."""
        if not stack:
            return [()]
        head, rest = stack[0], stack[1:]
        if head == "E":
            return self.opened(("P", "T") + rest)
        if head == "T":
            return self.opened(rest) + [((sign,), ("P", "T") + rest) for sign in self.signs]
        if head == "P":
            found = [((leaf,), rest) for leaf in self.values + ["NAME"]] + [(("(",), ("E", ")") + rest)]
            for part, places in self.places.items():
                found.append(((part,), ("(",) + ("E", ",") * (places - 1) + ("E", ")") + rest))
            return found
        return [((head,), rest)]

    def first_wrong(self, words):
        """The place of the first word behind which nothing that can be read begins so; None: it can go on; ends?"""
        stacks = {("E",)}
        for at, word in enumerate(words):
            is_name = word[0].isalpha() and word not in KEPT and word not in self.places
            now = set()
            for stack in stacks:
                for told in self.opened(stack):
                    if told and (told[0][0] == word or (told[0][0] == "NAME" and is_name)):
                        now.add(told[1])
            stacks = now
            if not stacks:
                return at
        return None if any(() in self.opened(stack) for stack in stacks) else len(words)


class ReadExpressionTest(Fails, unittest.TestCase):
    def reads(self, text, tree, book=BOOK, key=KEY):
        self.assertEqual(read_expression(book, key, text), tree)

    def test_told_trees(self):
        one, two = value(1), value(0)
        for text, tree in (("1", one), (" 0 ", two), ("a1", name("a1")), ("r", name("r")), ("r2", name("r2")),
                           ("((1))", one), ("not(1&0)", of(3, of(0, one, two))), ("(not)(1)", None),
                           ("1 & 0 ^ 1", of(2, of(0, one, two), one)), ("1 | 0 | 1", of(1, one, of(1, two, one))),
                           ("1 | 0 & 1", of(1, one, of(0, two, one))), ("1 & 0 | 1", of(1, of(0, one, two), one)),
                           ("(1 | 0) & 1", of(0, of(1, one, two), one)), ("not ( ( a ) ) ^0", of(2, of(3, name("a")), two)),
                           ("notnot", name("notnot")), ("insize", name("insize")), ("a b", None), ("1a", None),
                           ("01", None), ("2", None), ("in", None), ("left & 1", None), ("A", None), ("a\n", None)):
            if tree is None:
                self.assertIsNotNone(fault(read_expression, BOOK, KEY, text))
            else:
                self.reads(text, tree)
        book, key = (3, (LEAST, (3, (0,) * 27), TURN)), ("min", "mid", "turn3")
        self.reads("min ( mid(2,x,0) , turn3((y1)) )", of(0, of(1, value(2), name("x"), value(0)), of(2, name("y1"))),
                   book, key)

    def test_read_again_it_is_the_tree(self):
        dice = random.Random(1)
        keys = [KEY, (("&", 1, "right"), ("|", 9, "left"), "xor", "not"), ("a1", "b", ("^", 5, "right"), "r"),
                (("&", 5, "right"), ("|", 5, "right"), ("^", 5, "right"), "n")]
        for tree in all_trees((2, (AND, OR)), 2) + all_trees(BOOK, 2)[::5]:
            for key in keys:
                if "a" in key:
                    continue
                text = expression_text(BOOK, key, tree)
                self.reads(text, tree, key=key)
                self.reads(f" ( {text.replace(' ', '   ')})", tree, key=key)
                leaf = dice.choice(["1", "a"])
                spots = [at for at in range(len(text)) if text[at] == leaf and not text[at - 1:at].isalnum()
                         and not text[at + 1:at + 2].isalnum()]
                if spots:
                    at = dice.choice(spots)
                    self.reads(text[:at] + f"((({leaf})))" + text[at + 1:], tree, key=key)

    def test_levels_and_sides(self):
        """Each row of signs, against brackets put by hand: the greatest level first, from its side."""
        for sides in itertools.product(("left", "right"), repeat=2):
            key = (("&", 2, sides[0]), ("|", 7, sides[1]), ("^", 2, sides[0]), "not")
            for signs in itertools.product("&|^", repeat=4):
                words = [w for pair in zip("abcde", signs + ("",)) for w in pair if w]
                trees = [name(word) if at % 2 == 0 else word for at, word in enumerate(words)]
                for lot, side in (("|", sides[1]), ("&^", sides[0])):
                    while any(word in trees for word in lot):
                        spots = [at for at, word in enumerate(trees) if isinstance(word, str) and word in lot]
                        at = spots[0] if side == "left" else spots[-1]
                        number = "&|^".index(trees[at])
                        trees[at - 1:at + 2] = [of(number, trees[at - 1], trees[at + 1])]
                self.reads(" ".join(words), trees[0], key=key)

    def test_first_wrong_words(self):
        for text, at in (("", 0), ("   ", 3), (")", 0), ("1 )", 2), ("1 1", 2), ("(1", 2), ("( 1 ,", 4), ("not", 3),
                         ("not 1", 4), ("not(1, 0)", 5), ("1 & ", 4), ("1 & & 1", 4), ("2", 0), ("1 & 2", 4), ("01", 0),
                         ("00", 0), ("1234567890", 0), ("0000", 0), ("a & in", 4), ("if", 0), ("size", 0), ("1 + 1", 2),
                         ("1 = 1", 2), ("A", 0), ("aB", 1), ("a_b", 1), ("1\n", 1), ("\n1", 0), ("1 & not", 7),
                         ("a(1)", 1), ("not()", 4), ("()", 1), ("1(", 1), ("1,", 1), ("(1))", 3), ("\t1", 0), ("1 a", 2),
                         ("1a", 1), ("a not", 2), ("& 1", 0), ("((1) & ", 7), ("not(not(1)", 10), ("%", 0)):
            self.fails_at(InvalidText, at, read_expression, BOOK, KEY, text)
        book, key = (3, (LEAST, (3, (0,) * 27))), ("min", "mid")
        for text, at in (("min(1)", 5), ("min(1, 2, 0)", 8), ("min(1, 3)", 7), ("mid(1, 2)", 8), ("mid(1, 2, ", 10),
                         ("min 1", 4), ("min(1, 2", 8), ("min", 3), ("min(,", 4), ("min(min, 1)", 7)):
            self.fails_at(InvalidText, at, read_expression, book, key, text)
        for size in (2, 3, 4, 8):
            self.reads(str(size - 1), value(size - 1), (size, ()), ())
            self.fails_at(InvalidText, 0, read_expression, (size, ()), (), str(size))

    def test_all_short_texts(self):
        """Each row of few words, against all ways to read it at once."""
        book, key = (2, (NOT, AND, OR)), ("f", "g", ("&", 1, "left"))
        stacks = Stacks(book, key)
        for many in range(6):
            for words in itertools.product(("1", "a", "(", ")", "f", "g", "&", ","), repeat=many):
                text = " ".join(words)
                wrong = stacks.first_wrong(words)
                if wrong is not None:
                    wrong = len(text) if wrong == many else 2 * wrong
                self.assertEqual(fault(read_expression, book, key, text), wrong, text)

    def test_long_texts(self):
        dice = random.Random(2)
        book, key = BOOK, KEY
        stacks = Stacks(book, key)
        for tree in all_trees(BOOK, 2)[::3]:
            words = expression_text(book, key, tree).replace("(", " ( ").replace(")", " ) ").split()
            for other in wrong_words(words, ["(", ")", "&", "|", ",", "not", "1", "a", "in", "2", "="], dice, 2):
                text = " ".join(other)
                wrong = stacks.first_wrong(other)
                if wrong is not None:
                    wrong = len(text) if wrong == len(other) else len(" ".join(other[:wrong])) + (wrong > 0)
                self.assertEqual(fault(read_expression, book, key, text), wrong, text)

    def test_deep_texts(self):
        tree = name("x")
        for _ in range(2000):
            tree = of(3, tree)
        text = "not(" * 2000 + "x" + ")" * 2000
        found = read_expression(BOOK, KEY, text)
        self.assertEqual(expression_text(BOOK, KEY, found), text)
        self.assertEqual(read_expression(BOOK, KEY, "(" * 4000 + "x" + ")" * 4000), name("x"))
        self.fails_at(InvalidText, 9000, read_expression, BOOK, KEY, "(" * 9000)

    def test_wrong_inputs(self):
        for told in no_rows_of(2):
            self.fails_at(InvalidBook, -1, read_expression, told, None, None)
        for told in no_rows_of(4):
            self.fails_at(InvalidKey, -1, read_expression, BOOK, told, None)
        self.fails_at(InvalidKey, 3, read_expression, BOOK, KEY[:3] + ("end",), None)
        for told in ANYTHING:
            if not isinstance(told, str):
                self.fails_at(InvalidText, -1, read_expression, BOOK, KEY, told)
        self.same_in_lists(read_expression, BOOK, KEY, "not(a) & 1")


class ReadBookTest(Fails, unittest.TestCase):
    def test_told_books(self):
        self.assertEqual(read_book("size 2"), ((2, ()), ()))
        self.assertEqual(read_book(" size 8 "), ((8, ()), ()))
        self.assertEqual(read_book("size 2\nand 2:0 0 0 1\n  + 4 right :0 1 1 1"),
                         ((2, (AND, OR)), ("and", ("+", 4, "right"))))
        self.assertEqual(read_book("size 3\nr 1 : 1 2 0"), ((3, (TURN,)), ("r",)))

    def test_first_wrong_words(self):
        for text, at in (("", 0), ("size", 4), ("size ", 5), ("sizes 2", 0), ("Size 2", 0), ("size 1", 5), ("size 9", 5),
                         ("size 02", 5), ("size x", 5), ("size 2 2", 7), ("\nsize 2", 0), ("size 2\n", 7), ("size 2\n\n", 7),
                         ("size 2\nand", 10), ("size 2\nand 0", 11), ("size 2\nand 4", 11), ("size 2\nand 2 0", 13),
                         ("size 2\nand 2 : 0 0 0", 20), ("size 2\nand 2 : 0 0 2", 19), ("size 2\nand 2 : 0 0 0 1 1", 23),
                         ("size 2\nand 2 : 0\n0 0 1", 16), ("size 2\nin 1 : 0 1", 7), ("size 2\nr1 1 : 0 1", 7),
                         ("size 2\nf 1 : 0 1\nf 1 : 0 1", 17), ("size 2\n+ 0 left : 0 0 0 1", 9),
                         ("size 2\n+ 10 left : 0 0 0 1", 9), ("size 2\n+ 1 up : 0 0 0 1", 11), ("size 2\n+ 1 : 0 0 0 1", 11),
                         ("size 2\n= 1 left : 0 0 0 1", 7), ("size 2\n+ 1 left 0 0 0 1", 16), ("size 2\nleft 1 : 0 1", 7),
                         ("size 2\n+ 1 left : 0 0 0 1\n+ 1 left : 0 0 0 1", 26),
                         ("size 2\n+ 1 left : 0 0 0 1\n* 1 right : 0 0 0 1", 30), ("size 2\nA 1 : 0 1", 7),
                         ("size 2\n5 1 : 0 1", 7), ("size 2\nf 1 : 00 1", 13), ("size 2\nf 1 : 0 1\n", 17),
                         ("size 2\nf 2 1 : 0 1", 11), ("size 2\n+ left 1", 9), ("size 2,", 6), ("size 2\n(", 7)):
            self.fails_at(InvalidText, at, read_book, text)
        self.assertIsNone(fault(read_book, "size 2\n+ 1 left : 0 0 0 1\n* 1 left : 0 0 0 1"))
        self.assertIsNone(fault(read_book, "size 2\n+ 1 left : 0 0 0 1\n* 2 right : 0 0 0 1"))
        whole = "size 2" + "".join(f"\n{word} 1 : 0 1" for word in "abcdefgh")
        self.assertEqual(len(read_book(whole)[0][1]), 8)
        self.fails_at(InvalidText, len(whole), read_book, whole + "\n")
        self.fails_at(InvalidText, len(whole) + 1, read_book, whole + " \ni 1 : 0 1")

    def test_texts_that_end_too_early_can_go_on(self):
        dice = random.Random(3)
        books = [((2, (AND, NOT)), (("&", 3, "left"), "f")), ((3, (LEAST, TURN, MOST)), ("k", "f", ("+", 9, "right"))),
                 ((2, (AND, XOR)), (("&", 3, "left"), ("!", 3, "left")))]
        for book, key in books:
            words = book_text(book, key).replace("\n", " \n ").split(" ")
            for many in range(len(words)):
                text = " ".join(words[:many])
                if fault(read_book, text) is not None:
                    self.fails_at(InvalidText, len(text), read_book, text)
                    self.assertIsNotNone(finished(read_book, text), text)
            for other in wrong_words(words, ["f", "&", "9", "0", "left", "right", ":", "\n", "size", "r3", "r"], dice, 20):
                at = fault(read_book, " ".join(other))
                if at is not None:
                    self.assertIsNotNone(finished(read_book, " ".join(other)[:at]), other)

    def test_wrong_inputs(self):
        for told in ANYTHING:
            if not isinstance(told, str):
                self.fails_at(InvalidText, -1, read_book, told)
        self.assertEqual(read_book(text="size 2"), ((2, ()), ()))
        self.assertFalse(has_lists(read_book("size 2\n+ 1 left : 0 0 0 1")))


class ReadProgramTest(Fails, unittest.TestCase):
    book, key = (2, (AND, NOT)), (("&", 3, "left"), "not")

    def read(self, text):
        return read_program(self.book, self.key, text)

    def test_told_programs(self):
        for text, program in (
                ("out", ((), (), ())), ("out 1", ((), (("told", 1),), (0,))),
                ("in a\nin b:1\nout b,a", (((0, 1), (1,)), (), (1, 0))),
                ("in a\nb = a\nc = b\nout c & a", (((0, 1),), (("of", 0, (0, 0)),), (1,))),
                ("in a\nb = (a)\nout b", (((0, 1),), (), (0,))),
                ("in a\nb = not(a & 1)\nout b, not(b)", (((0, 1),), (("told", 1), ("of", 0, (0, 1)), ("of", 1, (2,)),
                                                                      ("of", 1, (3,))), (3, 4))),
                ("either\nelse\nend\nout", ((), (("fork", None, (), (), ()),), ())),
                ("in a\nif not(a) = 0\nb = 1\ngive b, a\nelse\nc = 0\nb = 1\ngive c, b\nend b, c\nout c, b",
                 (((0, 1),), (("of", 1, (0,)), ("fork", (1, 0), (("told", 1),), (("told", 0), ("told", 1)),
                                                ((2, 3), (0, 4)))), (6, 5))),
                ("in a\nloop 3 x = a, y = not(a)\nz = x & y\nagain z, x\nend\nout y",
                 (((0, 1),), (("of", 1, (0,)), ("loop", 3, (0, 1), (("of", 0, (2, 3)),), (4, 2))), (3,))),
                ("loop x = 1\nagain x\nend\nout", ((), (("told", 1), ("loop", None, (0,), (), (1,))), ())),
                ("in a\nloop 0 a1 = a\nloop a2 = a1\nagain 1\nend\nagain a2\nend\nout a1",
                 (((0, 1),), (("loop", 0, (0,), (("loop", None, (1,), (("told", 1),), (3,)),), (2,)),), (1,))),
                ("in r0\nr5 = r0 & r0\nr1 = r5\nout r1", (((0, 1),), (("of", 0, (0, 0)),), (1,)))):
            self.assertEqual(self.read(text), program)
            self.assertEqual(self.read("  " + text.replace(" ", "   ").replace("\n", " \n ") + " "), program)

    def test_names_seen(self):
        """Of each text, where the first wrong word is; None: it can be read."""
        for text, word, at in (
                ("in a\nin a\nout", "a", 1), ("in a\na = 1\nout", "a", 1), ("in a\nout b", "b", 0), ("b = b\nout", "b", 1),
                ("not = 1\nout", "not", 0), ("in not\nout", "not", 0), ("in size\nout", "size", 0), ("in 1\nout", "1", 0),
                ("either\nb = 1\nelse\nend\nout b", "b", 1), ("either\nb = 1\nelse\nb = 0\nend\nb = 1\nout b", None, 0),
                ("either\nb = 1\nelse\ngive b\nend\nout", "give", 0), ("either\nb = 1\nelse\nc = b\nend\nout", "b", 1),
                ("in a\neither\na = 1\nelse\nend\nout", "a", 1), ("either\ngive 1\nelse\ngive 0\nend a\nout a", None, 0),
                ("in a\neither\ngive 1\nelse\ngive 0\nend a\nout", "a", 1),
                ("either\ngive 1,0\nelse\ngive 0,1\nend a,a\nout", "a", 1),
                ("either\ngive 1\nelse\nc = 1\ngive c\nend c\nout c", None, 0),
                ("loop x = x\nagain 1\nend\nout", "x", 1), ("loop x = 1, y = x\nagain 1, 1\nend\nout", "x", 1),
                ("loop x = 1, x = 1\nagain 1, 1\nend\nout", "x", 1), ("loop x = 1\nx = 0\nagain 1\nend\nout", "x", 1),
                ("loop x = 1\ny = 0\nagain y\nend\nout y", "y", 2), ("loop x = 1\ny = 0\nagain y\nend\ny = x\nout y", None, 0),
                ("loop x = 1\nagain x\nend\nx = 1\nout x", "x", 2), ("in a\nloop a = 1\nagain a\nend\nout", "a", 1),
                ("in a\na1 = a\na1 = a\nout", "a1", 1), ("loop x = 1\nagain x\nend\nloop x = 1\nagain x\nend\nout", "x", 2),
                ("if b = 1\nelse\nend\nout", "b", 0), ("either\nloop x = 1\nagain x\nend\nelse\nx = 1\nend\nout x", "x", 3)):
            if word is None:
                self.assertIsNone(fault(self.read, text), text)
                continue
            spots = [spot for spot in range(len(text)) if text[spot:spot + len(word)] == word
                     and not text[spot - 1:spot].isalnum() and not text[spot + len(word):spot + len(word) + 1].isalnum()]
            self.fails_at(InvalidText, spots[at], read_program, self.book, self.key, text)

    def test_first_wrong_words(self):
        for text, at in (
                ("", 0), ("\nout", 0), ("out\n", 3), ("in", 2), ("in a", 4), ("in a out", 5), ("in a\n", 5), ("in a : out", 7),
                ("in a :\nout", 6), ("in a : 1 0\nout", 9), ("in a : 0 0\nout", 9), ("in a : 2\nout", 7),
                ("in a : 0 2\nout", 9), ("in a : 1 2\nout", 9),
                ("in a : 0 1 1", 11), ("in a : 0 1", 10), ("a\nout", 1), ("a = \nout", 4), ("a = 1 out", 6), ("a = 1,", 5),
                ("a = 1\nin b", 6), ("if 1\nelse", 4), ("if 1 = 2\n", 7), ("if 1 = a\n", 7), ("if = 1", 3), ("if 1 = 1 = 1", 9),
                ("either 1", 7), ("either\nend", 7), ("either\nout", 7), ("either\nagain", 7), ("either\ngive\n", 11),
                ("either\ngive 1,\n", 14), ("either\ngive 1\nend", 14), ("either\ngive 1\nelse\nend", 19),
                ("either\ngive 1\nelse\ngive 1, 0", 25), ("either\ngive 1, 0\nelse\ngive 1\n", 28),
                ("either\ngive 1\nelse\ngive 1\nend\n", 29), ("either\ngive 1\nelse\ngive 1\nend a, b", 31),
                ("either\nelse\nelse", 12), ("either\nelse\nend a", 16), ("either\nelse\nend", 15), ("either\nelse\nend\n", 16),
                ("either\nelse\nend\nelse", 16), ("else", 0), ("end", 0), ("give 1", 0), ("again 1", 0), ("size 2", 0),
                ("loop\n", 4), ("loop 01 a = 1", 5), ("loop 1234567890 a = 1", 5), ("loop 123456789 a = 1", 20),
                ("loop 1\n", 6), ("loop a\n", 6), ("loop a = 1,\n", 11), ("loop a = 1\nend", 11), ("loop a = 1\nelse", 11),
                ("loop a = 1\nagain\n", 16), ("loop a = 1\nagain 1, 1", 18), ("loop a = 1, b = 0\nagain 1\n", 25),
                ("loop a = 1\nagain 1\nout", 19), ("loop a = 1\nagain 1\nend a", 23), ("loop -1 a = 1", 5), ("loop 1 2", 7),
                ("out 1,", 6), ("out ,", 4), ("out 1 1", 6), ("out 1\nout", 5), ("out out", 4), ("OUT", 0), ("out a", 4),
                ("out 1 &", 7), ("out not", 7), ("out (1", 6), ("1 = 1\nout", 0), ("a == 1", 3), ("a & 1", 2), ("a(1) = 1", 1)):
            self.fails_at(InvalidText, at, read_program, self.book, self.key, text)

    def test_other_texts_of_programs(self):
        """Names of all kinds, seen no more and told again; brackets and blanks anywhere; all or some rows named."""
        dice = random.Random(4)
        for at, (book, program) in enumerate(random_programs(200)):
            key = key_of(book, at % 3 > 0)
            text = Spelled(book, key, program, row_registers(program[1], len(program[0]))).text
            self.assertEqual(read_program(book, key, text), program)
            words = text.replace("\n", " \n ").replace("(", " ( ").replace(")", " ) ").replace(",", " , ").split(" ")
            names = {f"r{number}": dice.choice("abcde") + f"{number}x" for number in range(200)}
            words = [names.get(word, word) for word in words if word]
            self.assertEqual(read_program(book, key, " ".join(words)), program)
            self.assertEqual(read_program(book, key, "  ".join(words)), program)

    def test_texts_that_end_too_early_can_go_on(self):
        dice = random.Random(5)
        for at, (book, program) in enumerate(random_programs(14)):
            key = key_of(book, at % 3 > 0)
            text = program_text(book, key, program)
            words = text.replace("\n", " \n ").replace("(", " ( ").replace(")", " ) ").replace(",", " , ").split(" ")
            words = [word for word in words if word]

            def read(told):
                return read_program(book, key, told)

            for many in range(0, len(words), 5):
                told = " ".join(words[:many])
                self.assertIn(fault(read, told), (None, len(told)))
                self.assertIsNotNone(finished(read, told), told)
            extra = ["in", "if", "either", "else", "end", "give", "loop", "again", "out", "\n", ",", "=", "0", "5", "r0", "zz",
                     "(", ")", ":"]
            for other in wrong_words(words, extra, dice, 3):
                told = " ".join(other)
                wrong = fault(read, told)
                if wrong is not None:
                    self.assertIsNotNone(finished(read, told[:wrong]), told)

    def test_no_text_begins_with_a_wrong_word(self):
        """Behind the word that is told as wrong nothing of a few further words makes a text that can be read."""
        dice = random.Random(6)
        extra = ["in", "if", "either", "else", "end", "give", "loop", "again", "out", "\n", ",", "=", "0", "1", "r0", "zz", ":"]
        for _ in range(400):
            told = " ".join(dice.choice(extra) for _ in range(dice.randrange(1, 9)))
            wrong = fault(self.read, told)
            if wrong is None or wrong == len(told):
                continue
            head = told[:wrong] + told[wrong:].split(" ")[0]
            self.assertEqual(fault(self.read, head), wrong)
            for more in itertools.product(("else", "end", "out", "\n", "=", "0", "zz"), repeat=3):
                self.assertEqual(fault(self.read, " ".join((head,) + more)), wrong)

    def test_wrong_inputs(self):
        for told in no_rows_of(2):
            self.fails_at(InvalidBook, -1, read_program, told, None, None)
            self.fails_at(InvalidKey, -1, read_program, self.book, told, None)
        self.fails_at(InvalidKey, 1, read_program, self.book, ("f", "f"), None)
        for told in ANYTHING:
            if not isinstance(told, str):
                self.fails_at(InvalidText, -1, read_program, self.book, self.key, told)
        text = "in a\nloop x = a\nagain not(x)\nend\nout x & a"
        told = self.read(text)
        self.assertFalse(has_lists(told))
        self.assertEqual(read_program(text=text, key=in_lists(self.key), book=in_lists(self.book)), told)


if __name__ == "__main__":
    unittest.main()
