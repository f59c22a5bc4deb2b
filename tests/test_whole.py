"""[2] over the whole package: wrong arguments in turn and together, by position and by names, lists for tuples."""

import copy
import importlib
import inspect
import itertools
import unittest

from foldsall import errors
from foldsall.alikes import alike_paper, runs_paper, telling_paper
from foldsall.always import always_paper
from foldsall.bench import Bench
from foldsall.boxes import pair_paper
from foldsall.cells import book_cells, rising_paper
from foldsall.code import fewest_cells, write_code
from foldsall.court import court_paper
from foldsall.cuts import cut_paper, lens_paper
from foldsall.folding import kept_paper
from foldsall.joins import finds_paper, joins_paper
from foldsall.ladder import word_paper
from foldsall.lots import lot_paper
from foldsall.mends import fewest_strikes
from foldsall.missed import grounded_row
from foldsall.severals import right_paper, several_paper
from foldsall.sortrows import sorted_paper
from foldsall.splits import fewest_cases, splits_paper
from foldsall.spread import list_paper
from foldsall.striking import rest_paper
from foldsall.trials import trials_paper
from foldsall.turnings import sort_sets_paper, turned_paper
from foldsall.twos import missed_program, written_program
from tests.helpers import AND, LEAST, NOT, TURN, XOR, Fails, has_lists, in_lists
from tests.test_interface import CLASSES, INTERFACE


class Given:
    """A value for a parameter, and a wrong one with the error that it raises."""

    def __init__(self, right, *wrong, lists=True):
        self.right, self.wrong, self.lists = right, wrong, lists


def told(name, at=-1, wrong=None):
    """A wrong value and its error."""
    word = "word" if name == "InvalidSize" else "at"
    return (wrong, getattr(errors, name), {} if name in ("InvalidKind", "InvalidCommand") else {word: at})


TWO, THREE = (2, (AND, NOT)), (3, (LEAST, TURN))
STRAIGHT = (((0, 1), (0, 1)), (("of", 1, (0,)), ("of", 0, (0, 2)), ("of", 0, (1, 3))), (4, 0))
WILD = (((0, 1),), (("fork", None, (("told", 1),), (), ((1, 0),)), ("loop", None, (2,), (("of", 1, (3,)),), (4,))), (3,))
CUT = (((0, 1), (0, 1)), ((0, (("in", 0), ("in", 1))), (1, (("line", 0),))), (("line", 1),))
KEY = (("&", 2, "left"), "not")
SORTED = ((2, 2), (((0,), 1, (1, 0)), ((1,), 0, (1, 0))))
SORTED_PROGRAM = ((0, 1), (("of", 0, (0,)), ("of", 1, (1,))))
SHAPE = (2, (((0, "up"), (1, "up")), ((0, "up"), (2, "down")), ((0, "up"), (2, "up"))))
PAIRS = ((0, 1), (1, 0))
OP3 = (1, (1, 2, 0))
REST = ("rest", 1, (1,), ((0, 1),))

BOOK = Given(TWO, told("InvalidBook"), told("InvalidBook", 1, (2, (AND, (1, (2, 0))))))
BOOK3 = Given(THREE, told("InvalidBook"), told("InvalidBook", 0, (3, (AND,))))
TWOS = Given(TWO, told("InvalidBook"), told("Refused", -1, (3, ())))
PROGRAM = Given(WILD, told("InvalidProgram"), told("InvalidProgram", 1, ((), (0,), ())), lists=False)
PLAIN = Given(STRAIGHT, told("InvalidProgram"), told("Refused", "rows", WILD), lists=False)
UNFORKED = Given(STRAIGHT, told("InvalidProgram"), told("Refused", "straight", WILD), lists=False)
CUTTED = Given(CUT, told("InvalidCut"), told("InvalidCut", 2, CUT[:2] + (None,)), lists=False)
SIZE = Given(3, told("InvalidSize", "size", 1), told("InvalidSize", "size", True))
OPERATION = Given(OP3, told("InvalidOperation"))
KEYED = Given(KEY, told("InvalidKey"), told("InvalidKey", 1, (("&", 2, "left"), "r1")))
TEXT = Given("out 1", told("InvalidText"), told("InvalidText", 0, "?"))
K = Given(1, told("InvalidSize", "k", 0), told("InvalidSize", "k", "1"))
SORTS = Given(SORTED, told("InvalidSorted"), told("InvalidSorted", 0, ((2,), (None,))), lists=False)
SORTED_ONE = Given(SORTED_PROGRAM, told("InvalidProgram"), lists=False)
SHAPED = Given(SHAPE, told("InvalidShape"), told("InvalidShape", 0, (1, (None,))))
ENDS = Given((3,), told("InvalidLot"), told("InvalidLot", 1, (3, 3)))
LOT = Given((0,), told("InvalidLot"), told("InvalidLot", 0, (9,)))
ARROWS = Given(PAIRS, told("InvalidArrows"), told("InvalidArrows", 1, ((0, 1), (0, 1))))
NUMBER = Given(0, told("InvalidIndex", 0, 9))
VALUE = Given(1, told("InvalidIndex", 1, 9), told("InvalidIndex", 1, True))
ONE = Given(0, told("InvalidIndex", 0))
ANSWERS = Given((0, 1, 1, 0), told("InvalidTable"), lists=False)
LIST = Given((0, 1), told("InvalidList"))
LISTS = Given(((0, 1), (1,)), told("InvalidList"), told("InvalidList", 1, ((0, 1), (9,))))
MOST = Given(9, told("InvalidSize", "most", 0))
KEPT = Given(1, told("InvalidSize", "kept", 0))
RUN = Given((0,), told("InvalidValues"), told("InvalidValues", 0, (5,)))
CHOICES = Given((1, 0), told("InvalidChoices"), told("InvalidChoices", 0, (2, 0)))


def paper(value):
    return Given(value, lists=False)


CALLS = {
    "tables": {
        "need_operation": (SIZE, OPERATION), "need_book": (BOOK,), "held_table": (SIZE, OPERATION, Given((None,), told("InvalidValues"))),
        "settled_value": (SIZE, OPERATION, Given((1,), told("InvalidValues", 0, (7,)))), "hung_places": (SIZE, OPERATION),
        "least_table": (SIZE, OPERATION), "two_places": (SIZE, OPERATION),
        "joined_table": (SIZE, OPERATION, Given(((0, (2,)),), told("InvalidTable"), told("InvalidTable", 0, (None,)))),
    },
    "sorts": {
        "need_sorted": (SORTS,), "program_sorts": (SORTS, SORTED_ONE), "sorted_values": (SORTS, SORTED_ONE, Given((0, 1), told("InvalidValues"))),
        "sorted_folds": (SORTS, SORTED_ONE), "sorted_kept": (SORTS, SORTED_ONE, Given(((0,), (0, 1)), told("InvalidList"))),
        "sorts_reached": (SORTS,), "sort_parts": (SORTS,),
    },
    "arrows": {"least_arrows": (BOOK3, ONE, Given(2, told("InvalidIndex", 1))), "are_arrows": (BOOK, paper(((0, 1),))), "sure_pairs": (BOOK,)},
    "books": {
        "keeps_pairs": (SIZE, ARROWS, OPERATION), "kept_maps": (SIZE, ARROWS), "apart_pairs": (SIZE, ARROWS), "pairs_kind": (SIZE, ARROWS),
        "grown_pairs": (SIZE, ARROWS), "further_map": (SIZE, ARROWS), "all_greatest": (SIZE,),
        "greatest_over": (Given(TWO, told("InvalidBook"), told("InvalidSize", "size", (5, ()))),),
    },
    "cells": {
        "rising_paper": (SIZE, OPERATION), "rising_holds": (SIZE, OPERATION, paper(rising_paper(3, OP3))), "book_cells": (TWOS,),
        "book_cells_hold": (TWOS, paper(book_cells(TWO))),
    },
    "levels": {"expression_text": (BOOK, KEYED, Given(("of", 1, (("value", 0),)), told("InvalidTree"), lists=False))},
    "programs": {
        "need_program": (BOOK, PROGRAM), "register_count": (BOOK, PROGRAM), "is_straight": (BOOK, PROGRAM), "register_sources": (BOOK, PROGRAM),
        "put_behind": (BOOK, PROGRAM, Given((((0, 1),), (), ()), told("InvalidProgram"), told("InvalidProgram", 0, ((), (), ())), lists=False)),
        "unrolled": (BOOK, PROGRAM, Given(2, told("InvalidSize", "turns", -1))),
    },
    "sortrows": {"sorted_paper": (SORTS,), "sorted_holds": (SORTS, paper(sorted_paper(SORTED))), "fewest_joint": (SORTS,)},
    "counts": {
        "whole_count": (SIZE, ARROWS, Given(2, told("InvalidSize", "places", 5))), "looked_form": (Given(2, told("InvalidSize", "size", 1)), ARROWS, Given(NOT, told("InvalidOperation"))),
        "formed_operation": (SIZE, ARROWS, Given(1, told("InvalidSize", "places", 4)), Given(("told", 1), told("InvalidTree"), lists=False)),
        "nth_operation": (SIZE, ARROWS, Given(1, told("InvalidSize", "places", 4)), Given(1, told("InvalidIndex", -1, -1))),
        "operation_number": (Given(2, told("InvalidSize", "size", 1)), ARROWS, Given(NOT, told("InvalidOperation"))),
        "whole_operations": (SIZE, ARROWS, Given(1, told("InvalidSize", "places", 3))),
        "joining_count": (BOOK, Given(1, told("InvalidSize", "places", 5))),
    },
    "court": {
        "court_paper": (BOOK,), "court_holds": (BOOK, paper(court_paper(TWO))), "least_ranges": (BOOK,),
        "range_program": (BOOK, Given((0,), told("Refused"))), "lists_grade": (BOOK,),
    },
    "folding": {
        "kept_sets": (BOOK, PROGRAM, K), "folded_values": (BOOK, PROGRAM), "quick_sets": (BOOK, PROGRAM, K), "kept_paper": (BOOK, PROGRAM, K),
        "kept_holds": (BOOK, PROGRAM, K, paper(kept_paper(TWO, WILD, 1))),
    },
    "lots": {
        "lot_paper": (BOOK, LOT, Given((0,), told("InvalidList"))), "lot_holds": (BOOK, LOT, Given((0,), told("InvalidList")), paper(lot_paper(TWO, (0,), (0,)))),
        "let_lots": (BOOK,), "pair_lots": (BOOK, ONE, VALUE),
    },
    "passes": {
        "cut_program": (BOOK, UNFORKED), "whole_program": (BOOK, CUTTED), "live_places": (BOOK, ONE, Given((None, 1), told("InvalidIndex", 1))),
        "told_lines": (BOOK, CUTTED), "passed": (BOOK, CUTTED, Given(("fold", "thin"), told("InvalidPasses"), told("InvalidPasses", 1, ("fold", 0)))),
        "plain_form": (BOOK, CUTTED), "missed_alike": (BOOK,),
    },
    "reading": {
        "read_expression": (BOOK, KEYED, Given("0 & 1", told("InvalidText"))), "read_program": (BOOK, KEYED, TEXT),
        "read_book": (Given("size 2", told("InvalidText"), told("InvalidText", 5, "size 9")),),
    },
    "runs": {
        "run_values": (BOOK, PROGRAM, RUN, CHOICES), "run_ends": (BOOK, PROGRAM, RUN, CHOICES), "straight_run": (BOOK, PROGRAM, RUN, CHOICES),
        "all_runs": (BOOK, PROGRAM, Given(1, told("InvalidSize", "turns"))), "runs_many": (BOOK, Given(STRAIGHT, told("InvalidProgram"), told("Refused", "turns", WILD), lists=False)),
        "shown_values": (BOOK, PROGRAM), "shown_run": (BOOK, PROGRAM, NUMBER, VALUE),
    },
    "texts": {"program_text": (BOOK, KEYED, PROGRAM), "named_registers": (BOOK, PROGRAM), "book_text": (BOOK, KEYED)},
    "turnings": {
        "turned_paper": (Given(SORTED, told("InvalidSorted"), told("Refused", -1, ((3,), ())), lists=False),),
        "turned_holds": (Given(SORTED, told("InvalidSorted"), told("Refused", 0, ((2, 2), ())), lists=False), paper(turned_paper(SORTED))),
        "sort_sets_paper": (SORTS,), "sort_sets_hold": (SORTS, paper(sort_sets_paper(SORTED))),
    },
    "always": {"always_paper": (SIZE, OPERATION), "always_holds": (SIZE, OPERATION, paper(always_paper(3, OP3)))},
    "boxes": {
        "pair_rows": (BOOK, ONE, VALUE), "pair_paper": (BOOK, ONE, VALUE), "pair_holds": (BOOK, ONE, VALUE, paper(pair_paper(TWO, 0, 1))),
        "right_pairs": (BOOK,),
    },
    "joins": {
        "looks_at": (BOOK, Given(1, told("InvalidIndex"))), "let_part": (BOOK, Given("finds", told("InvalidSize", "word"))), "joins_paper": (BOOK,),
        "finds_paper": (BOOK,), "joins_hold": (BOOK, paper(joins_paper(TWO))), "finds_hold": (BOOK, paper(finds_paper(TWO))),
    },
    "keeping": {
        "reading_tree": (BOOK, UNFORKED, Given(4, told("InvalidIndex"))), "double_inputs": (BOOK, UNFORKED, Given(4, told("InvalidIndex"))),
        "opened_program": (BOOK, UNFORKED, K), "told_program": (BOOK, PROGRAM),
    },
    "ladder": {
        "merging_program": (BOOK, ONE, VALUE), "story_program": (Given(TWO, told("InvalidBook"), told("Refused", -1, (2, ()))),),
        "turn_book": (Given(3, told("InvalidSize", "values", 2)),), "fewest_lines": (BOOK, Given(4, told("InvalidSize", "most"))),
        "word_paper": (Given((3, (TURN,)), told("InvalidBook"), told("Refused", -1, TWO)),),
        "word_holds": (Given((3, (TURN,)), told("InvalidBook"), told("Refused", -1, TWO)), paper(word_paper((3, (TURN,))))),
    },
    "mends": {
        "fewest_strikes": (BOOK, Given((1, 2), told("InvalidPrices"), told("InvalidPrices", 1, (1, 0)))),
        "strikes_hold": (BOOK, Given((1, 2), told("InvalidPrices")), paper(fewest_strikes(TWO, (1, 2)))), "let_constants": (BOOK,),
    },
    "missed": {
        "split_cases": (BOOK, PLAIN, LOT), "split_sets": (BOOK, PLAIN, LOT), "missed_values": (BOOK, PLAIN, LOT),
        "grounded_row": (BOOK, PLAIN, LOT, NUMBER, VALUE),
        "is_grounded": (BOOK, PLAIN, LOT, NUMBER, VALUE, paper(grounded_row(TWO, STRAIGHT, (0,), 0, 1))),
    },
    "severals": {
        "several_paper": (BOOK, Given(1, told("InvalidSize", "many", 2))), "several_holds": (BOOK, Given(1, told("InvalidSize", "many", 2)), paper(several_paper(TWO, 1))),
        "right_paper": (BOOK, Given(1, told("InvalidSize", "many", 2))), "right_holds": (BOOK, Given(1, told("InvalidSize", "many", 2)), paper(right_paper(TWO, 1))),
        "wrong_sizes": (BOOK,), "sizes_book": (Given(4, told("InvalidSize", "values", 9)), Given((1, 2), told("InvalidSize", "sizes"))),
    },
    "steps": {
        "told_at_once": (BOOK, PROGRAM), "told_by_rounds": (BOOK, PROGRAM), "round_row": (Given(3, told("InvalidSize", "many", 61)),), "loop_gap": (),
    },
    "striking": {
        "reached_lines": (BOOK, CUTTED, Given(0, told("InvalidIndex"))), "rest_paper": (BOOK,), "rest_holds": (BOOK, paper(rest_paper(TWO))),
        "hang_runs": (Given((2, (AND,)), told("InvalidBook")), Given(REST, told("InvalidRest"), lists=False), Given(2, told("InvalidSize", "many")),
                      Given(1, told("InvalidIndex"))),
        "line_runs": (Given((2, (AND,)), told("InvalidBook")), Given(REST, told("InvalidRest"), lists=False),
                      Given((((0, 1),), ((0, (("in", 0), ("value", 1))),), (("line", 0),)), told("InvalidCut"), lists=False)),
        "needless_lines": (BOOK, CUTTED),
    },
    "twos": {
        "place_way": (ANSWERS, VALUE), "has_kind": (Given("sums", told("InvalidKind")), ANSWERS), "book_kind": (TWOS,),
        "written_program": (TWOS, ANSWERS), "program_writes": (TWOS, ANSWERS, paper(written_program(TWO, (0, 1, 1, 0)))), "missed_rows": (TWOS,),
        "missed_program": (TWOS,), "missed_holds": (TWOS, paper(missed_program(TWO))),
    },
    "code": {
        "write_code": (BOOK, PROGRAM), "plain_code": (BOOK, PROGRAM),
        "run_code": (BOOK, Given(write_code(TWO, WILD), told("InvalidCode"), told("InvalidCode", 0, ((), (None,))), lists=False), RUN, CHOICES),
        "fewest_cells": (BOOK, CUTTED), "fewest_hold": (BOOK, CUTTED, paper(fewest_cells(TWO, CUT))),
    },
    "cuts": {
        "lens_bottoms": (SHAPED, SIZE, ENDS), "lens_paper": (SHAPED, SIZE, NUMBER, VALUE), "is_cut": (SHAPED, SIZE, ENDS, LOT),
        "lens_holds": (SHAPED, SIZE, NUMBER, VALUE, paper(lens_paper(SHAPE, 3, 0, 1))), "cut_paper": (SHAPED, SIZE, ENDS),
        "nearest_cuts": (SHAPED, SIZE, ENDS), "cut_holds": (SHAPED, SIZE, ENDS, paper(cut_paper(SHAPE, 3, (3,)))),
    },
    "loops": {
        "turns_enough": (SIZE, Given(2, told("InvalidSize", "heads", 0))), "bounded_program": (BOOK, PROGRAM),
        "turns_program": (SIZE, Given(2, told("InvalidSize", "heads", 0))), "seen_program": (SIZE,),
        "let_many": (SIZE, Given(2, told("InvalidSize", "places", 0)), Given("exact", told("InvalidSize", "word"))),
    },
    "splits": {
        "is_enough": (BOOK, PLAIN, LOT), "torn_lots": (BOOK, PLAIN), "least_splits": (BOOK, PLAIN), "splits_paper": (BOOK, PLAIN),
        "splits_hold": (BOOK, PLAIN, paper(splits_paper(TWO, STRAIGHT))), "lots_program": (Given(3, told("InvalidSize", "many", -1)), Given(((0,), (1, 2)), told("InvalidLot"))),
        "fewest_cases": (BOOK, PLAIN), "tree_holds": (BOOK, PLAIN, paper(fewest_cases(TWO, STRAIGHT)[1])), "chosen_program": (Given(2, told("InvalidSize", "many", 5)),),
    },
    "spread": {
        "list_rows": (BOOK, LIST, MOST), "list_paper": (BOOK, LIST, MOST), "list_holds": (BOOK, LIST, paper(list_paper(TWO, (0, 1), 9))),
        "right_lists": (Given(TWO, told("InvalidBook"), told("InvalidSize", "values", (5, ()))),), "all_right": (BOOK,),
    },
    "trials": {
        "trials_paper": (TWOS, Given(2, told("InvalidSize", "many", 5)), Given(((0, 0), (1, 1)), told("InvalidRuns"))),
        "trials_hold": (TWOS, Given(2, told("InvalidSize", "many", 5)), Given(((0, 0), (1, 1)), told("InvalidRuns")), paper(trials_paper(TWO, 2, ((0, 0), (1, 1))))),
        "fewest_trials": (TWOS, Given(2, told("InvalidSize", "many", 5))), "kind_count": (Given("ors", told("InvalidKind")), Given(3, told("InvalidSize", "places", 7))),
        "rising_answers": (Given(2, told("InvalidSize", "many", 5)),),
    },
    "alikes": {
        "alike_runs": (Given(((0, 1), (7,)), told("InvalidList"), told("InvalidList", 1, ((0,), ()))),), "same_inputs": (BOOK, PLAIN),
        "alike_run": (BOOK, PLAIN, NUMBER, VALUE), "alike_paper": (BOOK, LISTS, MOST), "alike_holds": (BOOK, LISTS, paper(alike_paper(TWO, ((0, 1), (1,)), 9))),
        "runs_paper": (BOOK, LISTS, Given(((0, 1), (1, 1)), told("InvalidRuns"), told("InvalidRuns", 1, ((0, 1), (0, 1)))), MOST),
        "runs_hold": (BOOK, LISTS, Given(((0, 1), (1, 1)), told("InvalidRuns")), paper(runs_paper(TWO, ((0, 1), (1,)), ((0, 1), (1, 1)), 9))),
        "fewest_runs": (BOOK, LISTS, MOST), "telling_paper": (BOOK, LIST, Given((0,), told("InvalidList")), KEPT, MOST),
        "telling_holds": (BOOK, LIST, Given((0,), told("InvalidList")), KEPT, paper(telling_paper(TWO, (0, 1), (0,), 1, 99))),
        "telling_parts": (BOOK, LIST, KEPT, MOST),
    },
    "looks": {
        "look_holds": (paper(("court", (TWO,), court_paper(TWO))),), "make_look": (Given("court", told("Refused", "word")), Given((TWO,), told("Refused", "question"))),
        "wrong_looks": (Given((("court", (TWO,), court_paper(TWO)), None), told("Refused", "looks"), lists=False),),
    },
    "signs": {
        "fits_shape": (SHAPED, BOOK, PLAIN), "program_shape": (BOOK, PLAIN), "told_cut": (BOOK, PLAIN),
        "lying_program": (Given(SHAPE, told("InvalidShape")), SIZE, ENDS, Given((1,), told("InvalidLot"), told("Refused", "lot", (0, 1)))),
    },
    "bench": {"bench_behind": (BOOK, Given(((0, 1),), told("InvalidProgram", 0)), ONE, VALUE, Given((), told("InvalidIndex"), told("InvalidIndex", 0, (None,))))},
    "live": {}, "desk": {},
}


def plain(result):
    """What can be compared of a result."""
    return (result.program_now(), result.kept_now()) if isinstance(result, Bench) else result


class WholeTest(Fails, unittest.TestCase):
    def calls(self):
        for name, functions in CALLS.items():
            module = importlib.import_module("foldsall." + name)
            for word, given in functions.items():
                yield name, getattr(module, word), given

    def test_all_functions_are_there(self):
        heads = {(name, head.split("(")[0]) for name, told_heads in INTERFACE.items() for head in told_heads.split(" ")}
        self.assertEqual({(name, word) for name in CALLS for word in CALLS[name]}, heads)
        for name, function, given in self.calls():
            self.assertEqual(len(inspect.signature(function).parameters), len(given), function.__name__)

    def test_one_wrong_argument(self):
        for name, function, given in self.calls():
            right = [one.right for one in given]
            names = list(inspect.signature(function).parameters)
            for at, one in enumerate(given):
                for wrong, error, says in one.wrong:
                    arguments = right[:at] + [wrong] + right[at + 1:]
                    self.fails(error, says, function, *arguments)
                    self.fails(error, says, function, **dict(zip(names, arguments)))

    def test_several_wrong_arguments(self):
        """The first one's error is raised; all behind it may be anything."""
        for name, function, given in self.calls():
            right = [one.right for one in given]
            for at, one in enumerate(given):
                for wrong, error, says in one.wrong:
                    for further in (None, (), "x", [True], object()):
                        # What depends on more than one argument comes behind all that tells of one.
                        if error is errors.Refused and says["at"] in ("lot", "turns"):
                            continue
                        if (name, function.__name__) == ("programs", "put_behind") and says == {"at": 0}:
                            continue
                        self.fails(error, says, function, *right[:at], wrong, *[further for _ in right[at + 1:]])

    def test_calls(self):
        for name, function, given in self.calls():
            names = list(inspect.signature(function).parameters)
            right = [one.right for one in given]
            kept = copy.deepcopy(right)
            result = plain(function(*right))
            self.assertFalse(has_lists(result), function.__name__)
            self.assertEqual(plain(function(**dict(reversed(list(zip(names, right)))))), result)
            for at in range(len(right) + 1):
                self.assertEqual(plain(function(*right[:at], **dict(zip(names[at:], right[at:])))), result)
            self.assertEqual(right, kept)
            for chosen in itertools.product(*[(False, True) if one.lists else (False,) for one in given]):
                mixed = [in_lists(one.right) if is_list else one.right for one, is_list in zip(given, chosen)]
                before = copy.deepcopy(mixed)
                self.assertEqual(plain(function(*mixed)), result, function.__name__)
                self.assertEqual(mixed, before)
            self.assertEqual(plain(function(*right)), result)
            if function.__name__.endswith("_hold") or function.__name__.endswith("_holds"):
                self.assertIs(result, True, function.__name__)

    def test_lists_for_papers_and_programs(self):
        """Lists may not stand for programs, trees and papers, nor within them."""
        for name, function, given in self.calls():
            right = [one.right for one in given]
            for at, one in enumerate(given):
                if one.lists or one.right is None or function.__name__ == "wrong_looks":
                    continue
                arguments = right[:at] + [in_lists(one.right)] + right[at + 1:]
                if one.wrong:
                    wrong, error, says = one.wrong[0]
                    self.fails(error, says, function, *arguments)
                elif has_lists(arguments[at]):
                    self.assertIs(function(*arguments), False)

    def test_bools_are_no_integers(self):
        for name, function, given in self.calls():
            right = [one.right for one in given]
            for at, one in enumerate(given):
                if type(one.right) is int and one.right in (0, 1):
                    _, error, says = one.wrong[0]
                    self.fails(error, says, function, *right[:at], bool(one.right), *right[at + 1:])

    def test_all_modules(self):
        """Each name of the document exists in its file, and methods in their class."""
        self.assertEqual(len(INTERFACE), 38)
        self.assertEqual(set(CLASSES), {("bench", "Bench"), ("live", "Live"), ("desk", "Desk")})


if __name__ == "__main__":
    unittest.main()
