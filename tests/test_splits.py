"""[48], [49], [50]: lots that are enough, torn lots, and trees of cases."""

import itertools
import random
import unittest

from foldsall.errors import InvalidBook, InvalidLot, InvalidProgram, Refused
from foldsall.missed import is_grounded, missed_values, split_cases
from foldsall.programs import need_program, register_count
from foldsall.runs import shown_values
from foldsall.splits import (chosen_program, fewest_cases, is_enough, least_splits, lots_program, splits_hold, splits_paper,
                             torn_lots, tree_holds)
from tests.helpers import (AND, ANYTHING, LEAST, NOT, OR, TURN, XOR, Fails, Writer, changed, has_lists, in_lists, no_rows_of,
                           no_sequences, no_values)
from tests.test_missed import BOOK, FORKED, LOOPED, NEVER, brute_cases, told

ODD = (((0, 1), (0, 1)), (("of", 0, (0, 1)), ("of", 0, (2, 0)), ("of", 0, (3, 1))), (4,))


def lots_of(many):
    return [lot for length in range(many + 1) for lot in itertools.combinations(range(many), length)]


def least(lots):
    """Those without another one within; fewer first, then ascending."""
    return tuple(lot for lot in sorted(lots, key=lambda one: (len(one), one))
                 if not any(set(other) < set(lot) for other in lots))


def brute_enough(book, program, lot):
    return not any(number in program[2] for number, _ in missed_values(book, program, lot))


def meets_all(lot, lots):
    return all(set(lot) & set(other) for other in lots)


def programs(many, most=6):
    """Straight programs with ends, of few registers; about half of them miss something."""
    books = ((2, (AND, NOT)), (2, (XOR,)), (3, (LEAST, TURN)), (2, (OR, XOR)), (2, ()), (3, ((2, (0, 1, 2, 1, 2, 0, 2, 0, 1)),)))
    for seed in range(many):
        book, dice = books[seed % len(books)], random.Random(seed)
        lists, found = (tuple(range(book[0])), dice.choice(((0, 1), tuple(range(book[0])), (1,)))), None
        for _ in range(30):
            rows = []
            for number in range(2, most):
                if book[1] and dice.random() < 0.9:
                    operation = dice.randrange(len(book[1]))
                    rows.append(("of", operation, tuple(dice.randrange(number) for _ in range(book[1][operation][0]))))
                else:
                    rows.append(("told", dice.randrange(book[0])))
            found = (lists, tuple(rows), (most - 1,) + (dice.randrange(most),) * dice.randrange(2))
            if seed % 2 and not brute_enough(book, found, ()):
                break
        yield book, found


def rows_with(book, program):
    """All grounded rows, by trying all lots of values."""
    values = [lot for lot in lots_of(book[0]) if lot]
    for row in itertools.product(values, repeat=register_count(book, program)):
        if is_grounded(book, program, (), 0, row[0][0], row):
            yield row


def are_misses(book, program, misses):
    shown = shown_values(book, program)
    for miss in misses:
        if not isinstance(miss, tuple) or len(miss) != 3 or type(miss[0]) is not int or miss[0] not in program[2]:
            return False
        end, value, row = miss
        if type(value) is not int or not 0 <= value < book[0] or value in shown[end]:
            return False
        if not is_grounded(book, program, (), end, value, row):
            return False
    return True


def is_paper(book, program, value):
    """By the words of the document, of any value."""
    if not isinstance(value, tuple) or len(value) != 2 or has_lists(value):
        return False
    lot, misses = value
    many = register_count(book, program)
    if not isinstance(lot, tuple) or not isinstance(misses, tuple) or not all(type(one) is int for one in lot):
        return False
    if lot not in lots_of(many) or not brute_enough(book, program, lot) or not are_misses(book, program, misses):
        return False
    torn = [[at for at, values in enumerate(row) if len(values) > 1] for _, _, row in misses]
    return not any(meets_all(other, torn) for other in lots_of(many) if len(other) < len(lot))


def kept_behind(book, program, chosen):
    """What all registers keep, if some are split at these values."""
    kept = []
    for number, source in enumerate(((("list", values),) for values in program[0])):
        kept.append((chosen[number],) if number in chosen else source[0][1])
    for row in program[1]:
        number = len(kept)
        kept.append((chosen[number],) if number in chosen else tuple(sorted(told(book, row, kept))))
    return kept


def is_clean(book, program, chosen, shown):
    kept = kept_behind(book, program, chosen)
    return all(set(kept[end]) <= set(shown[end]) for end in program[2])


def is_tree(book, program, value, chosen=None, shown=None):
    """By the words of the document, of any value."""
    chosen = {} if chosen is None else chosen
    shown = shown_values(book, program) if shown is None else shown
    if value == "leaf" and isinstance(value, str):
        return is_clean(book, program, chosen, shown)
    if not isinstance(value, tuple) or len(value) != 2 or type(value[0]) is not int or not isinstance(value[1], tuple):
        return False
    number, trees = value
    if not max(chosen, default=-1) < number < register_count(book, program):
        return False
    values = kept_behind(book, program, chosen)[number]
    return len(trees) == len(values) and all(is_tree(book, program, tree, {**chosen, number: one}, shown)
                                             for one, tree in zip(values, trees))


def brute_fewest(book, program, chosen, shown):
    """The fewest leaves, going through all trees."""
    if is_clean(book, program, chosen, shown):
        return 1
    kept, found = kept_behind(book, program, chosen), []
    for number in range(max(chosen, default=-1) + 1, len(kept)):
        if len(kept[number]) > 1:
            parts = [brute_fewest(book, program, {**chosen, number: value}, shown) for value in kept[number]]
            if None not in parts:
                found.append(sum(parts))
    return min(found, default=None)


def leaves(tree):
    return 1 if tree == "leaf" else sum(leaves(one) for one in tree[1])


class LotsTest(Fails, unittest.TestCase):
    def test_lots(self):
        torn_ones = 0
        for book, program in programs(150):
            lots = lots_of(register_count(book, program))
            enough = [lot for lot in lots if brute_enough(book, program, lot)]
            for lot in lots[::3]:
                self.assertIs(is_enough(book, program, lot), lot in enough)
            splits, torn = least_splits(book, program), torn_lots(book, program)
            self.assertFalse(has_lists((splits, torn)))
            self.assertEqual(splits, least(enough))
            # A lot is enough exactly if it meets each torn lot; each of both is just the least that meet the other.
            self.assertEqual(torn, least([lot for lot in lots if meets_all(lot, splits)]))
            self.assertEqual([lot for lot in lots if meets_all(lot, torn)], enough)
            torn_ones += len(torn)
            inputs = range(len(program[0]))
            self.assertTrue(all(set(lot) & set(inputs) for lot in torn))
            for number in set.intersection(*map(set, splits)):
                self.assertIn((number,), torn)
                self.assertIn(number, inputs)
        self.assertGreater(torn_ones, 40)

    def test_torn_rows(self):
        """Torn lots as they are told: of all grounded rows with a miss, gone through."""
        for book, program in [(BOOK, NEVER), ((2, (XOR,)), ODD)] + [one for one in programs(60, 5) if one[0][0] == 2]:
            shown, torn = shown_values(book, program), []
            for row in rows_with(book, program):
                if any(value not in shown[end] for end in program[2] for value in row[end]):
                    torn.append(tuple(at for at, values in enumerate(row) if len(values) > 1))
            self.assertEqual(torn_lots(book, program), least(list(set(torn))))

    def test_told_by_hand(self):
        self.assertEqual((torn_lots(BOOK, NEVER), least_splits(BOOK, NEVER)), (((0,),), ((0,),)))
        self.assertEqual(fewest_cases(BOOK, NEVER), (2, (0, ("leaf", "leaf"))))
        for program in (((), (), ()), (((0, 1),), (), (0,)), (((0, 1),), (("of", 1, (0,)), ("of", 0, (0, 1))), ())):
            self.assertEqual((torn_lots(BOOK, program), least_splits(BOOK, program)), ((), ((),)))
            self.assertEqual(splits_paper(BOOK, program), ((), ()))
            self.assertEqual(fewest_cases(BOOK, program), (1, "leaf"))
            self.assertIs(is_enough(BOOK, program, ()), True)
        self.assertEqual((torn_lots((2, (XOR,)), ODD), least_splits((2, (XOR,)), ODD))[0][0], (0,))

    def test_papers(self):
        for book, program in programs(150):
            paper = splits_paper(book, program)
            self.assertFalse(has_lists(paper))
            self.assertTrue(is_paper(book, program, paper))
            self.assertIs(splits_hold(book, program, paper), True)
            self.assertEqual(len(paper[0]), min(len(lot) for lot in least_splits(book, program)))
            # All enough lots of the fewest registers hold, too; all misses or just some.
            for lot in least_splits(book, program):
                value = (lot, paper[1])
                self.assertIs(splits_hold(book, program, value), len(lot) == len(paper[0]))
                for some in (paper[1][1:], paper[1] + paper[1][:1], paper[1][::-1]):
                    self.assertIs(splits_hold(book, program, (lot, some)), is_paper(book, program, (lot, some)))

    def test_changed_papers(self):
        same = (((0, 1),), (("of", 0, (0, 0)),), (1,))
        for book, program in ((BOOK, NEVER), ((2, (XOR,)), ODD), (BOOK, (((0, 1),), (), (0,))), lots_program(2, [[0], [1]]),
                              ((2, (XOR,)), same)):
            paper = splits_paper(book, program)
            others = [((0,), ()), ((), paper[1]), (paper[0], paper[1], ()), ((True,), paper[1]), ((0, 0), paper[1]),
                      ((0,), ((1, 0, ((0, 1), (0,))),)), ((0,), ((0, 1, ((0, 1), (1,))),)), ((0,), ((1, 1, ((0, 1), (0, 1))),))]
            for value in itertools.chain(changed(paper), ANYTHING, others):
                said = splits_hold(book, program, value)
                self.assertIs(type(said), bool)
                self.assertEqual(said, is_paper(book, program, value), value)

    def test_wrong_inputs(self):
        functions = (lambda *given: is_enough(*given, None), torn_lots, least_splits, splits_paper, fewest_cases,
                     lambda *given: splits_hold(*given, None), lambda *given: tree_holds(*given, None))
        for function in functions:
            for value in no_rows_of(2):
                self.fails_at(InvalidBook, -1, function, value, None)
            for value in no_rows_of(3):
                self.fails_at(InvalidProgram, -1, function, BOOK, value)
            for program in (FORKED, LOOPED):
                self.fails_at(Refused, "rows", function, BOOK, program)
            self.fails_at(InvalidProgram, 2, function, BOOK, FORKED[:2] + ((9,),))
        for value in no_sequences():
            self.fails_at(InvalidLot, -1, is_enough, BOOK, NEVER, value)
        for value in no_values(5):
            self.fails_at(InvalidLot, 0, is_enough, BOOK, NEVER, (value, value))
            self.fails_at(InvalidLot, 1, is_enough, BOOK, NEVER, [2, value])
        self.fails_at(InvalidLot, 2, is_enough, BOOK, NEVER, (0, 3, 3))
        self.assertIs(is_enough(lot=[0], program=NEVER, book=in_lists(BOOK)), True)
        for function in functions[1:5]:
            self.assertEqual(function(program=NEVER, book=in_lists(BOOK)), function(BOOK, NEVER))
        self.assertIs(splits_hold(value=splits_paper(BOOK, NEVER), program=NEVER, book=in_lists(BOOK)), True)
        self.assertIs(tree_holds(value=(0, ("leaf", "leaf")), program=NEVER, book=in_lists(BOOK)), True)


class LotsProgramsTest(Fails, unittest.TestCase):
    def test_lots_programs(self):
        for many in range(5):
            lots = [lot for lot in lots_of(many) if lot]
            dice = random.Random(many)
            for _ in range(25 if many > 1 else 3):
                chosen = []
                for lot in dice.sample(lots, min(len(lots), 6)):
                    if not any(set(lot) <= set(other) or set(other) <= set(lot) for other in chosen):
                        chosen.append(lot)
                self.look_at(many, chosen)
        self.look_at(4, list(itertools.combinations(range(4), 2)))
        self.look_at(4, [(0, 1, 2, 3)])

    def look_at(self, many, lots):
        made = lots_program(many, lots)
        self.assertFalse(has_lists(made))
        book, program = made
        self.assertEqual((book[0], need_program(book, program)), (2, program))
        self.assertEqual(program[0], ((0, 1),) * many)
        self.assertEqual(torn_lots(book, program), tuple(sorted(map(tuple, lots), key=lambda lot: (len(lot), lot))))
        inputs = [lot for lot in lots_of(many) if meets_all(lot, lots)]
        self.assertEqual(least_splits(book, program), least(inputs))
        self.assertIs(splits_hold(book, program, splits_paper(book, program)), True)
        cases, tree = fewest_cases(book, program)
        self.assertEqual(cases, leaves(tree))
        self.assertIs(tree_holds(book, program, tree), True)

    def test_wrong_inputs(self):
        for value in ANYTHING:
            if type(value) is not int or value < 0:
                self.fails_size("many", lots_program, value, None)
        for value in no_sequences():
            self.fails_at(InvalidLot, -1, lots_program, 3, value)
        for value in no_sequences() + [(), [], (0, 0), (1, 0), (3,), (0, 3), (True,), (-1, 0), ("0",)]:
            self.fails_at(InvalidLot, 0, lots_program, 3, [value, value])
            self.fails_at(InvalidLot, 1, lots_program, 3, [[2], value])
        for lots, at in (([(0,), (0,)], 1), ([(0,), (1,), (0, 2)], 2), ([(0, 2), (1,), (2,)], 2), ([(0, 1), (0, 1, 2), ()], 1)):
            self.fails_at(InvalidLot, at, lots_program, 3, lots)
        self.assertEqual(lots_program(lots=[[0], [1, 2]], many=3), lots_program(3, ((0,), (1, 2))))
        self.assertEqual(lots_program(0, ())[1], ((), (), ()))


class TreesTest(Fails, unittest.TestCase):
    def test_fewest_cases(self):
        several = 0
        for book, program in programs(150):
            shown = shown_values(book, program)
            many, tree = fewest_cases(book, program)
            self.assertEqual(many, brute_fewest(book, program, {}, shown))
            self.assertEqual(many, leaves(tree))
            self.assertFalse(has_lists(tree))
            self.assertTrue(is_tree(book, program, tree))
            self.assertIs(tree_holds(book, program, tree), True)
            several += many > 1
            for lot in least_splits(book, program):
                self.assertLessEqual(many, len(split_cases(book, program, lot)))
        self.assertGreater(several, 30)

    def test_all_trees(self):
        """All trees of a few splits: those hold whose leaves are clean."""
        for book, program in ((BOOK, NEVER), ((2, (XOR,)), ODD), ((2, (AND,)), (((1,), (0, 1)), (("of", 0, (0, 1)),), (2,)))):
            many = register_count(book, program)
            trees = ["leaf"]
            for number in reversed(range(many)):
                parts = [tree for tree in trees if tree == "leaf" or tree[0] > number][:12]
                for length in (1, 2):
                    trees += [(number, row) for row in itertools.product(parts, repeat=length)]
            for tree in trees + [(1, (("leaf"), (0, ("leaf", "leaf")))), (0, ((0, ("leaf",)), "leaf")), (many, ("leaf",)), (-1, ("leaf",))]:
                self.assertIs(tree_holds(book, program, tree), is_tree(book, program, tree))

    def test_what_leaves_keep(self):
        for book, program in programs(60):
            shown, found = shown_values(book, program), {end: set() for end in program[2]}

            def go(tree, chosen):
                kept = kept_behind(book, program, chosen)
                if tree == "leaf":
                    for end in found:
                        found[end] |= set(kept[end])
                else:
                    for value, one in zip(kept[tree[0]], tree[1]):
                        go(one, {**chosen, tree[0]: value})

            go(fewest_cases(book, program)[1], {})
            self.assertEqual(found, {end: set(shown[end]) for end in found})

    def test_changed_trees(self):
        for book, program in ((BOOK, NEVER), ((2, (XOR,)), ODD), (BOOK, (((0, 1),), (), (0,))), chosen_program(2)):
            tree = fewest_cases(book, program)[1]
            for value in itertools.chain(changed(tree), ANYTHING, ("leaf", ("leaf",), (0, "leaf"), "leaves", ["leaf"])):
                said = tree_holds(book, program, value)
                self.assertIs(type(said), bool)
                self.assertEqual(said, is_tree(book, program, value), value)

    def test_chosen_programs(self):
        for many in (2, 3, 4):
            made = chosen_program(many)
            self.assertFalse(has_lists(made))
            book, program = made
            self.assertEqual((book[0], need_program(book, program)), (many, program))
            lists = program[0]
            self.assertEqual((lists[0], len(lists)), (tuple(range(many)), many + 1))
            self.assertTrue(all(len(values) == 2 for values in lists[1:]))
            others = tuple(range(1, many + 1))
            self.assertEqual(least_splits(book, program), (others,))
            self.assertEqual(torn_lots(book, program), tuple((number,) for number in others))
            self.assertEqual(len(split_cases(book, program, others)), 2 ** many)
            tree = (0, tuple((number, ("leaf", "leaf")) for number in others))
            held = [order for order in itertools.permutations(others)
                    if tree_holds(book, program, (0, tuple((number, ("leaf", "leaf")) for number in order)))]
            self.assertGreaterEqual(len(held), 1)
            self.assertLessEqual(fewest_cases(book, program)[0], 2 * many)
            self.assertIs(tree_holds(book, program, tree), True)
            self.assertIs(splits_hold(book, program, splits_paper(book, program)), True)
        for value in ANYTHING + (1, 5):
            if type(value) is not int or not 2 <= value <= 4:
                self.fails_size("many", chosen_program, value)
        self.assertEqual(chosen_program(many=2), chosen_program(2))

    def test_the_limits(self):
        for seed in range(40):
            dice = random.Random(seed)
            size = dice.choice((2, 3, 4))
            places = [dice.choice((1, 2, 2, 3)) for _ in range(2)]
            book = (size, tuple((one, tuple(dice.randrange(size) for _ in range(size ** one))) for one in places))
            rows = []
            for at in range(8):
                number = dice.randrange(2)
                rows.append(("of", number, tuple(dice.randrange(4 + at) for _ in range(places[number]))))
            program = ((tuple(range(size)),) * 4, tuple(rows), (10, 11))
            paper = splits_paper(book, program)
            self.assertIs(splits_hold(book, program, paper), True)
            self.assertIs(is_enough(book, program, paper[0]), True)
            many, tree = fewest_cases(book, program)
            self.assertEqual(many, leaves(tree))
            self.assertIs(tree_holds(book, program, tree), True)
            self.assertLessEqual(many, len(split_cases(book, program, paper[0])))


if __name__ == "__main__":
    unittest.main()
