"""[7], the part of `expression_text`: keys, trees and their texts."""

import itertools
import unittest

from foldsall.errors import InvalidBook, InvalidKey, InvalidTree
from foldsall.levels import expression_text
from tests.helpers import AND, ANYTHING, LEAST, MOST, NOT, OR, TURN, XOR, Fails, changed, no_rows_of, no_values

BOOK = (2, (AND, OR, XOR, NOT))
KEY = (("&", 3, "left"), ("|", 2, "right"), ("^", 3, "left"), "not")
WORDS = ("in", "if", "either", "else", "end", "give", "loop", "again", "out", "size", "left", "right")


def value(told):
    return ("value", told)


def name(told):
    return ("name", told)


def of(number, *trees):
    return ("of", number, trees)


def read(key, text):
    """A plain reader of texts: of the signs of the least level outside of brackets the one that binds last."""
    words = text.replace("(", " ( ").replace(")", " ) ").replace(",", " , ").split()
    return parse(key, words)


def parse(key, words):
    signs = {part[0]: (number, part[1], part[2]) for number, part in enumerate(key) if not isinstance(part, str)}
    depth, spots = 0, []
    for at, word in enumerate(words):
        depth += {"(": 1, ")": -1}.get(word, 0)
        if depth == 0 and word in signs:
            spots.append(at)
    if spots:
        least = min(signs[words[at]][1] for at in spots)
        spots = [at for at in spots if signs[words[at]][1] == least]
        number, _, side = signs[words[spots[0]]]
        at = spots[-1] if side == "left" else spots[0]
        return of(signs[words[at]][0], parse(key, words[:at]), parse(key, words[at + 1:]))
    if words[0] == "(":
        return parse(key, words[1:-1])
    if len(words) == 1:
        return value(int(words[0])) if words[0].isdigit() else name(words[0])
    arms, depth, begin = [], 0, 2
    for at in range(2, len(words)):
        if depth == 0 and (words[at] == "," or at == len(words) - 1):
            arms.append(parse(key, words[begin:at]))
            begin = at + 1
        depth += {"(": 1, ")": -1}.get(words[at], 0)
    return of(key.index(words[0]), *arms)


def all_trees(book, deep):
    trees = [value(1), name("a")]
    if deep:
        below = all_trees(book, deep - 1)
        for number, operation in enumerate(book[1]):
            for arms in itertools.product(below, repeat=operation[0]):
                trees.append(of(number, *arms))
    return trees


def fewer_brackets(text):
    """All texts with one pair of brackets left out."""
    begins = []
    for end, sign in enumerate(text):
        if sign == "(":
            begins.append(end)
        elif sign == ")":
            begin = begins.pop()
            yield text[:begin] + " " + text[begin + 1:end] + " " + text[end + 1:]


class TextsTest(Fails, unittest.TestCase):
    def test_told_texts(self):
        one, two = value(1), value(0)
        self.assertEqual(expression_text(BOOK, KEY, one), "1")
        self.assertEqual(expression_text(BOOK, KEY, name("r12")), "r12")
        self.assertEqual(expression_text(BOOK, KEY, of(3, of(0, one, two))), "not(1 & 0)")
        self.assertEqual(expression_text(BOOK, KEY, of(0, of(2, one, two), one)), "1 ^ 0 & 1")
        self.assertEqual(expression_text(BOOK, KEY, of(0, one, of(2, one, two))), "1 & (1 ^ 0)")
        self.assertEqual(expression_text(BOOK, KEY, of(1, one, of(1, one, two))), "1 | 1 | 0")
        self.assertEqual(expression_text(BOOK, KEY, of(1, of(1, one, two), one)), "(1 | 0) | 1")
        self.assertEqual(expression_text(BOOK, KEY, of(0, of(1, one, two), of(3, two))), "(1 | 0) & not(0)")
        self.assertEqual(expression_text(BOOK, KEY, of(1, of(0, one, two), of(3, two))), "1 & 0 | not(0)")
        words = ("min", "max", "turn3")
        book = (3, (LEAST, (3, (0,) * 27), TURN))
        tree = of(1, of(0, value(2), name("x")), value(0), of(2, name("y1")))
        self.assertEqual(expression_text(book, words, tree), "max(min(2, x), 0, turn3(y1))")
        self.assertEqual(expression_text((2, ()), (), name("abc")), "abc")

    def test_read_again_it_is_the_tree(self):
        for tree in all_trees(BOOK, 2):
            text = expression_text(BOOK, KEY, tree)
            self.assertEqual(read(KEY, text), tree)

    def test_no_text_has_fewer_brackets(self):
        keys = [KEY, (("&", 1, "right"), ("|", 9, "left"), "xor", "not"),
                (("&", 5, "right"), ("|", 5, "right"), ("^", 5, "right"), "n")]
        for key in keys:
            for tree in all_trees((2, BOOK[1][:2]), 2) + all_trees((2, BOOK[1][:2]), 3)[::997]:
                text = expression_text(BOOK, key, tree)
                self.assertEqual(read(key, text), tree)
                for other in fewer_brackets(text):
                    self.assertNotEqual(read(key, other), tree)

    def test_deep_trees(self):
        tree = value(1)
        for _ in range(3000):
            tree = of(3, tree)
        self.assertEqual(expression_text(BOOK, KEY, tree), "not(" * 3000 + "1" + ")" * 3000)

    def test_keys(self):
        for key in (("a", "b", "c", "d"), ("r", "rr1", "r1a", "in1"), (("+", 1, "left"), ("$", 9, "right"), "x9", "y"),
                    [["+", 1, "left"], ["-", 1, "left"], ["~", 1, "left"], "z"], ("outs", "els", "if0", "r2d2")):
            self.assertEqual(expression_text(BOOK, key, value(0)), "0")
        for sign in "+-*/&|^<>!@~$":
            self.assertEqual(expression_text((2, (AND,)), [(sign, 4, "left")], of(0, value(0), value(1))), f"0 {sign} 1")

    def test_wrong_keys(self):
        for key in no_rows_of(4) + [KEY[:3], KEY + ("e",), "abcd"]:
            self.fails_at(InvalidKey, -1, expression_text, BOOK, key, None)
        parts = [part for part in ANYTHING if not isinstance(part, str)] + [
            "", "A", "1a", "a_", "a b", "r0", "r12", "é", "aB", "&", ("&", 3, "left", 0), ("&", 3), ("&", 0, "left"),
            ("&", 10, "left"), ("&", True, "left"), ("&", "3", "left"), ("&", 3, "up"), ("&", 3, None), ("=", 3, "left"),
            ("%", 3, "left"), ("&&", 3, "left"), ("", 3, "left"), (("&",), 3, "left"), ("a", 3, "left")] + list(WORDS)
        for part in parts:
            self.fails_at(InvalidKey, 0, expression_text, BOOK, (part, part, part, part), None)
            self.fails_at(InvalidKey, 2, expression_text, BOOK, ("a", "b", part, "c"), None)
        # Signs for operations of two places alone, names and signs unlike, one side for one level.
        self.fails_at(InvalidKey, 3, expression_text, BOOK, ("a", "b", "c", ("&", 3, "left")), None)
        self.fails_at(InvalidKey, 2, expression_text, BOOK, ("a", "b", "a", "a"), None)
        self.fails_at(InvalidKey, 1, expression_text, BOOK, (("&", 3, "left"), ("&", 4, "left"), "a", "b"), None)
        self.fails_at(InvalidKey, 1, expression_text, BOOK, (("&", 3, "left"), ("|", 3, "right"), "a", "b"), None)
        self.fails_at(InvalidKey, 2, expression_text, BOOK, (("&", 3, "left"), "a", ("|", 3, "right"), "a"), None)

    def test_wrong_trees(self):
        right = of(0, value(1), name("x"))
        wrong = list(ANYTHING) + [
            list(right), ("of", 0, [value(1), value(0)]), ("of", 0, (value(1),)), ("of", 4, (value(1),)),
            ("of", True, (value(1), value(0))), ("of", 3, value(1)), ("of", -1, (value(1),)), ("value", True),
            ("value", 2), ("value", -1), ("value", "1"), ("value", 1, 0), ("name", "not"), ("name", "in"),
            ("name", "X"), ("name", ""), ("name", 3), ("name", ["x"]), ("name",), ("names", "x"), (["name"], "x"),
            ("off", 0, (value(1), value(0))), (None, 3, (value(1),)), ("value", 3, (value(1),))]
        for tree in wrong:
            self.fails_at(InvalidTree, -1, expression_text, BOOK, KEY, tree)
            self.fails_at(InvalidTree, -1, expression_text, BOOK, KEY, of(3, tree))
            self.fails_at(InvalidTree, -1, expression_text, BOOK, KEY, of(0, value(0), of(1, tree, value(0))))
        for told in no_values(2):
            self.fails_at(InvalidTree, -1, expression_text, BOOK, KEY, value(told))
        for tree in changed(right):
            try:
                expression_text(BOOK, KEY, tree)
            except InvalidTree as error:
                self.assertEqual(error.at, -1)

    def test_order_of_errors(self):
        self.fails_at(InvalidBook, -1, expression_text, None, None, None)
        self.fails_at(InvalidBook, 1, expression_text, (2, (AND, MOST)), None, None)
        self.fails_at(InvalidKey, -1, expression_text, BOOK, None, None)

    def test_lists_for_tuples(self):
        tree = of(1, of(1, name("r3"), value(0)), value(1))
        self.assertEqual(expression_text([2, [list(part) for part in BOOK[1]]], [list(part) if isinstance(part, tuple)
                                         else part for part in KEY], tree), "(r3 | 0) | 1")
        self.assertEqual(expression_text(tree=tree, key=KEY, book=BOOK), "(r3 | 0) | 1")


if __name__ == "__main__":
    unittest.main()
