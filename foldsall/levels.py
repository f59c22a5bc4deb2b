"""Words of texts, names and signs of operations, and trees of them as texts with the fewest brackets."""

from foldsall.common import is_below, is_between, is_row_of, is_tuple_of
from foldsall.errors import InvalidKey, InvalidText, InvalidTree
from foldsall.tables import need_book

KEPT_WORDS = ("in", "if", "either", "else", "end", "give", "loop", "again", "out", "size", "left", "right")
LETTERS = "abcdefghijklmnopqrstuvwxyz"
FIGURES = "0123456789"
SIGNS = "+-*/&|^<>!@~$"


def are_figures(text):
    """Whether a string has one figure or more, and nothing else."""
    return len(text) > 0 and all([sign in FIGURES for sign in text])


def word_end(text, at):
    """Where the word that begins here ends."""
    sign = text[at]
    end = at + 1
    if sign not in LETTERS and sign not in FIGURES:
        return end
    while end < len(text) and (text[end] in FIGURES or (sign in LETTERS and text[end] in LETTERS)):
        end += 1
    return end


def text_words(text):
    """The words of a text, each with where it begins, and behind them an empty one for the end."""
    words = []
    at = 0
    while at < len(text):
        end = word_end(text, at)
        if text[at] != " ":
            words.append((text[at:end], at))
        at = end
    words.append(("", len(text)))
    return words


def is_number_word(word):
    """Whether a word is a number without a needless 0, of up to nine figures."""
    return are_figures(word) and len(word) <= 9 and (word == "0" or word[0] != "0")


class Words:
    """The words of any value as a text, read one behind another."""

    def __init__(self, text):
        if not isinstance(text, str):
            raise InvalidText(-1)
        self.words = text_words(text)
        self.at = 0

    def now(self):
        """The word that is read next; an empty one at the end."""
        return self.words[self.at][0]

    def place(self):
        """Where the word that is read next begins."""
        return self.words[self.at][1]

    def take(self):
        """Reads a word."""
        self.at += 1
        return self.words[self.at - 1][0]

    def does_take(self, word):
        """Reads a word if it is this one; tells whether it is."""
        if self.now() != word:
            return False
        self.at += 1
        return True

    def need(self, word):
        """Reads this word."""
        if self.now() != word:
            raise InvalidText(self.place())
        self.at += 1

    def need_end(self):
        """Raises if a word is left."""
        if self.now() != "":
            raise InvalidText(self.place())

    def take_number(self, least, most):
        """Reads a number from least to most, None for any."""
        word = self.now()
        if not is_number_word(word) or int(word) < least or (most is not None and int(word) > most):
            raise InvalidText(self.place())
        return int(self.take())


def is_name(value):
    """Whether any value is a name: a small letter, then small letters and figures; kept words are none."""
    if not isinstance(value, str) or len(value) == 0 or value[0] not in LETTERS:
        return False
    return all([sign in LETTERS or sign in FIGURES for sign in value]) and value not in KEPT_WORDS


def is_operation_name(value):
    """Whether any value is a name that an operation may have: none that a told number of a row has."""
    return is_name(value) and not (value[0] == "r" and are_figures(value[1:]))


def is_sign(value):
    """Whether any value is (sign, level, side)."""
    if not is_row_of(3, value) or not isinstance(value[0], str) or len(value[0]) != 1 or value[0] not in SIGNS:
        return False
    return is_between(1, 9, value[1]) and (value[2] == "left" or value[2] == "right")


def does_fit(part, ahead):
    """Whether a name or sign is unlike all ahead, and has the side that its level has there."""
    if isinstance(part, str):
        return part not in ahead
    others = [other for other in ahead if not isinstance(other, str)]
    return all([part[0] != other[0] and (part[1] != other[1] or part[2] == other[2]) for other in others])


def need_key(book, key):
    """A key of a book, in tuples."""
    operations = book[1]
    if not is_row_of(len(operations), key):
        raise InvalidKey(-1)
    parts = []
    for at, part in enumerate(key):
        if is_sign(part) and operations[at][0] == 2:
            part = tuple(part)
        elif not is_operation_name(part):
            raise InvalidKey(at)
        if not does_fit(part, parts):
            raise InvalidKey(at)
        parts.append(part)
    return tuple(parts)


def tree_arms(book, key, tree):
    """The arms of a tree, of a value or a name none; None if it is no tree, whatever its arms are."""
    size, operations = book
    if not isinstance(tree, tuple) or len(tree) == 0:
        return None
    if tree[0] == "value":
        return () if len(tree) == 2 and is_below(size, tree[1]) else None
    if tree[0] == "name":
        return () if len(tree) == 2 and is_name(tree[1]) and tree[1] not in key else None
    if tree[0] != "of" or len(tree) != 3 or not is_below(len(operations), tree[1]):
        return None
    return tree[2] if is_tuple_of(operations[tree[1]][0], tree[2]) else None


def flat_tree(book, key, tree):
    """A tree and all within it, each ahead of its arms, with the places of these; None if it is no tree.

    Trees that texts tell may be deep, so this does not go down by calls.
    """
    trees = []
    places = []
    waiting = [(tree, None)]
    while waiting:
        here, above = waiting.pop()
        arms = tree_arms(book, key, here)
        if arms is None:
            return None
        if above is not None:
            places[above].append(len(trees))
        waiting.extend([(arm, len(trees)) for arm in arms[::-1]])
        trees.append(here)
        places.append([])
    return (trees, places)


def in_brackets(key, tree, part, side):
    """Whether an arm at a side of a sign is put in brackets."""
    if tree[0] != "of" or isinstance(key[tree[1]], str):
        return False
    _, level, own = key[tree[1]]
    return level < part[1] or (level == part[1] and own != side)


def arm_text(key, tree, text, part, side):
    """The text of an arm at a side of a sign."""
    return f"({text})" if in_brackets(key, tree, part, side) else text


def joined_text(key, tree, arms, texts):
    """The text of a tree, if its arms have these texts."""
    if tree[0] != "of":
        return str(tree[1])
    part = key[tree[1]]
    if isinstance(part, str):
        told = ", ".join(texts)
        return f"{part}({told})"
    left = arm_text(key, arms[0], texts[0], part, "left")
    right = arm_text(key, arms[1], texts[1], part, "right")
    return f"{left} {part[0]} {right}"


def tree_text(book, key, tree):
    """The text of any value as a tree; None if it is none."""
    flat = flat_tree(book, key, tree)
    if flat is None:
        return None
    trees, places = flat
    texts = ["" for _ in trees]
    for at in reversed(range(len(trees))):
        arms = [trees[place] for place in places[at]]
        texts[at] = joined_text(key, trees[at], arms, [texts[place] for place in places[at]])
    return texts[0]


def expression_text(book, key, tree):
    """A tree as a text with the fewest brackets."""
    book = need_book(book)
    key = need_key(book, key)
    text = tree_text(book, key, tree)
    if text is None:
        raise InvalidTree(-1)
    return text
