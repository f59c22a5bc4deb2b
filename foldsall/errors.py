"""The errors that the package raises."""


class FoldError(Exception):
    """The base of all errors of the package."""


class InvalidText(FoldError):
    """A text that cannot be read: where the first wrong word begins."""

    def __init__(self, at):
        self.at = at


class InvalidBook(FoldError):
    """No book: the first operation that is none, or -1."""

    def __init__(self, at):
        self.at = at


class InvalidOperation(FoldError):
    """No operation of the size."""

    def __init__(self, at):
        self.at = at


class InvalidTable(FoldError):
    """No row of tables: the first that is none, or -1."""

    def __init__(self, at):
        self.at = at


class InvalidKey(FoldError):
    """No key of a book: the first wrong part, or -1."""

    def __init__(self, at):
        self.at = at


class InvalidTree(FoldError):
    """No tree, or no form of an operation."""

    def __init__(self, at):
        self.at = at


class InvalidProgram(FoldError):
    """No program: its first wrong part, or -1."""

    def __init__(self, at):
        self.at = at


class InvalidValues(FoldError):
    """No row of values: the first wrong one, or -1."""

    def __init__(self, at):
        self.at = at


class InvalidChoices(FoldError):
    """No row of choices: the first wrong one, or -1."""

    def __init__(self, at):
        self.at = at


class InvalidList(FoldError):
    """No list of values, or no row of lists: the first wrong one, or -1."""

    def __init__(self, at):
        self.at = at


class InvalidRuns(FoldError):
    """No row of runs: the first wrong one, or -1."""

    def __init__(self, at):
        self.at = at


class InvalidArrows(FoldError):
    """No row of pairs: the first wrong one, or -1."""

    def __init__(self, at):
        self.at = at


class InvalidPasses(FoldError):
    """No row of passes: the first wrong one, or -1."""

    def __init__(self, at):
        self.at = at


class InvalidIndex(FoldError):
    """A number, a value or a deed that is not there."""

    def __init__(self, at):
        self.at = at


class InvalidPrices(FoldError):
    """No row of prices: the first wrong one, or -1."""

    def __init__(self, at):
        self.at = at


class InvalidLot(FoldError):
    """No lot: the first wrong number, or -1."""

    def __init__(self, at):
        self.at = at


class InvalidCut(FoldError):
    """No cut program: its first wrong part, or -1."""

    def __init__(self, at):
        self.at = at


class InvalidCode(FoldError):
    """No code: the first wrong instruction, or -1."""

    def __init__(self, at):
        self.at = at


class InvalidRest(FoldError):
    """No rest that holds."""

    def __init__(self, at):
        self.at = at


class InvalidSorted(FoldError):
    """No book of sorts: the first operation that is none, or -1."""

    def __init__(self, at):
        self.at = at


class InvalidShape(FoldError):
    """No shape: the first wrong row, or -1."""

    def __init__(self, at):
        self.at = at


class Refused(FoldError):
    """What is passed is right in itself, but not let here."""

    def __init__(self, at):
        self.at = at


class InvalidSize(FoldError):
    """A number that is not let: the word of which number."""

    def __init__(self, word):
        self.word = word


class InvalidKind(FoldError):
    """None of the words for kinds of answers."""


class InvalidCommand(FoldError):
    """Nothing that a desk understands."""
