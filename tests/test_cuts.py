"""[51], [52], [53]: lenses and gates, cuts, and ways apart."""

import itertools
import random
import unittest

from foldsall.cuts import cut_holds, cut_paper, is_cut, lens_bottoms, lens_holds, lens_paper, nearest_cuts
from foldsall.errors import InvalidIndex, InvalidLot, InvalidShape
from foldsall.splits import is_enough
from tests.helpers import ANYTHING, Fails, changed, has_lists, in_lists, no_sequences, no_values

WORDS = ("up", "down", "any", "none")
SHAPE = (2, (((0, "up"), (1, "up")), ((0, "up"), (2, "down")), ((0, "up"), (2, "up"))))
DEEP = (2, (((0, "up"),), ((0, "down"), (1, "up")), ((2, "up"), (3, "down")), ((4, "any"),), ((4, "up"), (5, "none"), (5, "down"))))


def random_shape(seed, rows=6, places=3):
    dice = random.Random(seed)
    inputs, found = dice.randrange(1, 4), []
    words = dice.choice((WORDS, ("up", "up", "down"), ("up", "any"), ("up",)))
    if seed % 3 == 0:
        # Many rows that read much: so there are several ways apart.
        inputs, places = 3, dice.choice((3, 4))
    for at in range(rows if seed % 3 == 0 else dice.randrange(rows + 1)):
        least = 2 if seed % 3 == 0 else 0
        found.append(tuple((dice.randrange(inputs + at), dice.choice(words)) for _ in range(dice.randrange(least, places))))
    return (inputs, tuple(found))


def many_of(shape):
    return shape[0] + len(shape[1])


def readings_of(shape, number):
    """(reader, place, word), ascending."""
    return [(shape[0] + at, place, word) for at, row in enumerate(shape[1]) for place, (read, word) in enumerate(row)
            if read == number and word != "none"]


def ways_from(shape, number):
    """All ways, as tuples of readings, of one reading or more, each with whether it can be even, and odd."""
    for reader, place, word in readings_of(shape, number):
        signs = {"up": {1}, "down": {-1}, "any": {1, -1}}[word]
        yield ((reader, place),), signs
        for way, others in ways_from(shape, reader):
            yield ((reader, place),) + way, {one * other for one in signs for other in others}


def leads(shape, number, end):
    return number == end or any(way[-1][0] == end for way, _ in ways_from(shape, number))


def are_lens(shape, size, end, one, other):
    (way, signs), (back, others) = one, other
    if way[0] == back[0] or way[-1][0] != back[-1][0] or not leads(shape, way[-1][0], end):
        return False
    if {reader for reader, _ in way[:-1]} & {reader for reader, _ in back[:-1]}:
        return False
    return size > 2 or any(a != b for a in signs for b in others)


def lenses(shape, size, end, number):
    ways = list(ways_from(shape, number))
    return [(one[0], other[0]) for one in ways for other in ways if are_lens(shape, size, end, one, other)]


def leading_readings(shape, end, number):
    return tuple((reader, place) for reader, place, _ in readings_of(shape, number) if leads(shape, reader, end))


def is_gate(shape, end, number, signs):
    if not isinstance(signs, tuple) or len(signs) < 2:
        return False
    for row in signs:
        if not isinstance(row, tuple) or len(row) != 2 or type(row[0]) is not int or type(row[1]) is not int:
            return False
        if row[1] not in (1, -1) or not 0 <= row[0] < many_of(shape):
            return False
    numbers = [row[0] for row in signs]
    if numbers != sorted(set(numbers)) or signs[0] != (number, 1) or not leads(shape, numbers[-1], end):
        return False
    known = dict(signs)
    for one, sign in signs[:-1]:
        for reader, _, word in readings_of(shape, one):
            if leads(shape, reader, end):
                if word == "any" or known.get(reader) != (sign if word == "up" else -sign):
                    return False
    return True


def is_lens_paper(shape, size, end, number, value):
    """By the words of the document, of any value."""
    if not isinstance(value, tuple) or has_lists(value):
        return False
    few = leading_readings(shape, end, number)
    if len(value) == 3 and value[0] == "lens":
        if any(type(part) is bool for way in value[1:] if isinstance(way, tuple) for step in way if isinstance(step, tuple)
               for part in step):
            return False
        return value[1:] in lenses(shape, size, end, number)
    if len(value) != 2:
        return False
    if value[0] == "few":
        return len(few) < 2 and value[1] == few and all(type(part) is int for step in value[1] for part in step)
    return value[0] == "gate" and size == 2 and len(few) > 1 and is_gate(shape, end, number, value[1])


def reached(shape, lot):
    found = {number for number in range(shape[0]) if number not in lot}
    for number in range(many_of(shape)):
        if number in found:
            found |= {reader for reader, _, _ in readings_of(shape, number) if reader not in lot}
    return found


def lots_of(many):
    return [lot for length in range(many + 1) for lot in itertools.combinations(range(many), length)]


def is_cut_paper(shape, size, ends, value):
    """By the words of the document, of any value."""
    if not isinstance(value, tuple) or len(value) != 2 or has_lists(value):
        return False
    lot, ways = value
    bottoms = lens_bottoms(shape, size, ends)
    if not isinstance(lot, tuple) or not all(type(one) is int for one in lot) or lot not in lots_of(many_of(shape)):
        return False
    if reached(shape, lot) & set(bottoms) or not isinstance(ways, tuple) or len(ways) != len(lot):
        return False
    for way in ways:
        if not isinstance(way, tuple) or not way or not all(type(one) is int for one in way):
            return False
        if not 0 <= way[0] < shape[0] or way[-1] not in bottoms:
            return False
        for one, other in zip(way, way[1:]):
            if not 0 <= one < many_of(shape) or other not in [reader for reader, _, _ in readings_of(shape, one)]:
                return False
    met = [number for way in ways for number in way]
    return len(met) == len(set(met))


class LensesTest(Fails, unittest.TestCase):
    def test_told_lenses(self):
        self.assertEqual((lens_bottoms(SHAPE, 2, [3]), lens_bottoms(SHAPE, 2, [4]), lens_bottoms(SHAPE, 3, [4])), ((0,), (), (0,)))
        self.assertEqual(lens_paper(SHAPE, 2, 4, 0), ("gate", ((0, 1), (2, 1), (4, 1))))
        self.assertEqual(lens_paper(SHAPE, 2, 3, 1), ("few", ((2, 1),)))
        self.assertEqual(lens_paper(SHAPE, 2, 2, 4), ("few", ()))
        self.assertEqual(lens_paper(SHAPE, 2, 0, 0), ("few", ()))
        twice = (1, (((0, "up"), (0, "up")), ((0, "down"), (0, "down"), (0, "none")), ((0, "up"), (0, "down"))))
        self.assertEqual([lens_paper(twice, 2, end, 0)[0] for end in (1, 2, 3)], ["gate", "gate", "lens"])
        self.assertEqual(lens_paper(twice, 2, 2, 0), ("gate", ((0, 1), (2, -1))))
        self.assertEqual([lens_paper(twice, 3, end, 0)[0] for end in (1, 2, 3)], ["lens"] * 3)

    def test_lenses(self):
        kinds = {}
        for seed in range(170):
            shape = random_shape(seed)
            many = many_of(shape)
            for size, end in itertools.product((2, 3), range(many)):
                bottoms = []
                for number in range(many):
                    found = lenses(shape, size, end, number)
                    bottoms += [number] if found else []
                    paper = lens_paper(shape, size, end, number)
                    kinds[paper[0]] = kinds.get(paper[0], 0) + 1
                    self.assertFalse(has_lists(paper))
                    self.assertTrue(is_lens_paper(shape, size, end, number, paper), (shape, size, end, number, paper))
                    self.assertIs(lens_holds(shape, size, end, number, paper), True)
                    # Just one of the three words is there.
                    self.assertEqual(paper[0] == "lens", bool(found))
                    few = len(leading_readings(shape, end, number)) < 2
                    self.assertEqual(paper[0] == "few", few)
                    if len(found) > 1:
                        for ways in random.Random(seed).sample(found, 2):
                            self.assertIs(lens_holds(shape, size, end, number, ("lens",) + ways), True)
                self.assertEqual(lens_bottoms(shape, size, (end,)), tuple(bottoms))
            ends = tuple(sorted(random.Random(seed).sample(range(many), min(many, 2))))
            for size in (2, 5):
                told = {number for end in ends for number in lens_bottoms(shape, size, (end,))}
                self.assertEqual(lens_bottoms(shape, size, ends), tuple(sorted(told)))
                self.assertEqual(lens_bottoms(shape, size, ()), ())
        self.assertGreater(min(kinds.values()), 20)

    def test_all_ways(self):
        """Any two ways, and any signs: by the words of the document."""
        for shape in (SHAPE, DEEP, (1, (((0, "up"), (0, "any")), ((1, "down"), (0, "up"))))):
            many = many_of(shape)
            for size, end, number in itertools.product((2, 3), range(many), range(many)):
                ways = [way for way, _ in ways_from(shape, number)]
                right = lenses(shape, size, end, number)
                for pair in itertools.product((ways + [()])[:9], repeat=2):
                    self.assertIs(lens_holds(shape, size, end, number, ("lens",) + pair), pair in right)
                for chosen in [lot for lot in lots_of(many) if lot and lot[0] == number][:24]:
                    for row in itertools.product((1, -1), repeat=len(chosen)):
                        value = ("gate", tuple(zip(chosen, row)))
                        self.assertIs(lens_holds(shape, size, end, number, value), is_lens_paper(shape, size, end, number, value))
                for readings in ((), leading_readings(shape, end, number), ((many - 1, 0),)):
                    value = ("few", readings)
                    self.assertIs(lens_holds(shape, size, end, number, value), is_lens_paper(shape, size, end, number, value))

    def test_changed_papers(self):
        for shape, size, end, number in ((SHAPE, 2, 3, 0), (SHAPE, 2, 4, 0), (SHAPE, 2, 3, 1), (SHAPE, 3, 4, 0), (DEEP, 2, 6, 0),
                                         (DEEP, 2, 6, 4), (DEEP, 3, 4, 1), (DEEP, 2, 6, 2), (DEEP, 2, 2, 5)):
            paper = lens_paper(shape, size, end, number)
            for value in itertools.chain(changed(paper), ANYTHING, (("lens", (), ()), ("gate", ()), ("few", ()), ("gate", ((number, 1),)))):
                told = lens_holds(shape, size, end, number, value)
                self.assertIs(type(told), bool)
                self.assertEqual(told, is_lens_paper(shape, size, end, number, value), value)

    def test_the_limits(self):
        """Rows that each read the one ahead twice have many ways, but few lenses."""
        for word, kind in (("up", "gate"), ("any", "lens")):
            shape = (3, tuple(((max(0, at + 2), "up"), (at + 2, word)) for at in range(9)))
            self.assertEqual(lens_paper(shape, 2, 11, 2)[0], kind)
            self.assertEqual(lens_bottoms(shape, 3, (11,)), tuple(range(2, 11)))
            self.assertEqual(cut_paper(shape, 3, (11,)), ((2,), ((2,),)))


class CutsTest(Fails, unittest.TestCase):
    def test_told_cuts(self):
        self.assertEqual(cut_paper(SHAPE, 2, [3]), ((0,), ((0,),)))
        self.assertEqual(cut_paper(SHAPE, 2, [4]), ((), ()))
        self.assertEqual(nearest_cuts(SHAPE, 2, [4]), ((), ()))
        # A way from the input on: the cuts of one register are nearer and farther.
        line = (2, (((0, "up"), (1, "up")), ((2, "up"),), ((3, "up"), (3, "down"))))
        self.assertEqual(lens_bottoms(line, 2, (4,)), (3,))
        self.assertEqual(nearest_cuts(line, 2, (4,)), ((2,), (3,)))
        self.assertEqual([lot for lot in lots_of(5) if is_cut(line, 2, (4,), lot) and len(lot) < 2], [(2,), (3,)])
        self.assertIs(is_cut(line, 2, (4,), (0,)), False)
        self.assertIs(is_cut(line, 2, (4,), (0, 1)), True)
        # Rows without places are no inputs; an input that is a bottom is a way.
        self.assertEqual(cut_paper((0, ((), ((0, "up"), (0, "down")))), 2, (1,)), ((), ()))
        self.assertEqual(cut_paper((1, (((0, "any"), (0, "up")),)), 2, (1,)), ((0,), ((0,),)))
        self.assertEqual(cut_paper((0, ()), 2, ()), ((), ()))

    def test_cuts(self):
        many_ways = 0
        for seed in range(200):
            shape = random_shape(seed)
            many = many_of(shape)
            ends = tuple(sorted(random.Random(seed).sample(range(many), min(many, seed % 4))))
            for size in (2, 3):
                bottoms = set(lens_bottoms(shape, size, ends))
                cuts = [lot for lot in lots_of(many) if not reached(shape, lot) & bottoms]
                for lot in lots_of(many)[::5]:
                    self.assertIs(is_cut(shape, size, ends, lot), lot in cuts)
                paper = cut_paper(shape, size, ends)
                self.assertFalse(has_lists(paper))
                self.assertTrue(is_cut_paper(shape, size, ends, paper))
                self.assertIs(cut_holds(shape, size, ends, paper), True)
                fewest = [lot for lot in cuts if len(lot) == len(cuts[0])]
                self.assertIn(paper[0], fewest)
                many_ways += len(paper[1]) > 1
                near, far = nearest_cuts(shape, size, ends)
                self.assertTrue(near in fewest and far in fewest)
                for lot in fewest:
                    self.assertIs(cut_holds(shape, size, ends, (lot, paper[1])), True)
                    self.assertTrue(reached(shape, near) <= reached(shape, lot) <= reached(shape, far))
                    self.assertEqual(reached(shape, lot) == reached(shape, near), lot == near)
        self.assertGreater(many_ways, 20)

    def test_a_cut_is_enough(self):
        """In programs that fit, with random operations: split at a cut the ends miss nothing."""
        missed = 0
        for seed in range(200):
            dice = random.Random(seed)
            shape = random_shape(seed, 5)
            shape = (shape[0], tuple(tuple((read, "any") for read, _ in row) for row in shape[1]))
            size, rows, operations = dice.choice((2, 3)), [], []
            for row in shape[1]:
                if row:
                    rows.append(("of", len(operations), tuple(read for read, _ in row)))
                    operations.append((len(row), tuple(dice.randrange(size) for _ in range(size ** len(row)))))
                else:
                    rows.append(("told", dice.randrange(size)))
            ends = (many_of(shape) - 1,)
            lists = tuple(tuple(sorted(dice.sample(range(size), 2))) for _ in range(shape[0]))
            book, program = (size, tuple(operations)), (lists, tuple(rows), ends)
            for lot in {cut_paper(shape, size, ends)[0], *nearest_cuts(shape, size, ends)}:
                self.assertIs(is_enough(book, program, lot), True)
            missed += not is_enough(book, program, ())
        self.assertGreater(missed, 20)

    def test_changed_papers(self):
        line = (2, (((0, "up"), (1, "up")), ((2, "up"), (1, "up")), ((3, "up"), (3, "down"), (0, "up")), ((1, "any"), (4, "up"), (0, "any"))))
        for shape, size, ends in ((SHAPE, 2, (3,)), (DEEP, 2, (6,)), (DEEP, 3, (4, 6)), (line, 2, (5,)), (line, 3, (4, 5)), (SHAPE, 2, ())):
            paper = cut_paper(shape, size, ends)
            others = [(lot, paper[1]) for lot in lots_of(many_of(shape))]
            others += [(paper[0], paper[1][::-1]), (paper[0][1:], paper[1][1:]), ((True,), paper[1]), (paper[0], ((0,),) * len(paper[0]))]
            for value in itertools.chain(changed(paper), ANYTHING, others):
                told = cut_holds(shape, size, ends, value)
                self.assertIs(type(told), bool)
                self.assertEqual(told, is_cut_paper(shape, size, ends, value), value)

    def test_longer_ways(self):
        line = (1, (((0, "up"),), ((1, "up"), (0, "up")), ((2, "up"), (2, "down"))))
        for way in ((0,), (0, 1), (0, 1, 2), (0, 2), (2,), (0, 2, 3), (1, 2), ()):
            self.assertIs(cut_holds(line, 2, (3,), ((0,), (way,))), way in ((0, 1, 2), (0, 2), (0,)) and way[-1] == 2)


class WrongInputsTest(Fails, unittest.TestCase):
    def functions(self):
        return (lens_bottoms, lambda *given: lens_paper(*given, None), lambda *given: lens_holds(*given, None, None),
                lambda *given: is_cut(*given, None), cut_paper, nearest_cuts, lambda *given: cut_holds(*given, None))

    def test_shapes(self):
        wrong = [value for value in ANYTHING if not (isinstance(value, (list, tuple)) and len(value) == 2
                                                     and type(value[0]) is int and isinstance(value[1], (list, tuple)))]
        wrong += [(-1, ()), (True, ()), (1, None), (1, (), ()), ("1", ()), (1,), (None, (((0, "up"),),))]
        rows = [value for value in no_sequences()] + [
            ((0, "up"),) * 4, ((0,),), ((0, "up", 1),), ((0, "Up"),), ((0, None),), ((True, "up"),), ((-1, "up"),), ("up",), ((0, ["up"]),),
            ((0, ("up",)),), ((None, "up"),), (0, "up"), ((0, "either"),)]
        for function in self.functions():
            for value in wrong:
                self.fails_at(InvalidShape, -1, function, value, None, None)
            for row in rows:
                self.fails_at(InvalidShape, 0, function, (1, (row, row)), None, None)
                self.fails_at(InvalidShape, 1, function, [1, [[], row]], None, None)
            self.fails_at(InvalidShape, 0, function, (1, (((1, "up"),),)), None, None)
            self.fails_at(InvalidShape, 2, function, (1, (((0, "up"),), (), ((0, "up"), (3, "up")), None)), None, None)
            for size in ANYTHING + (1, 9):
                if type(size) is not int or not 2 <= size <= 8:
                    self.fails_size("size", function, SHAPE, size, None)

    def test_lots(self):
        functions = (lens_bottoms, lambda *given: is_cut(*given, None), cut_paper, nearest_cuts, lambda *given: cut_holds(*given, None),
                     lambda shape, size, lot: is_cut(shape, size, (), lot))
        for function in functions:
            for value in no_sequences():
                self.fails_at(InvalidLot, -1, function, SHAPE, 8, value)
            for value in no_values(5):
                self.fails_at(InvalidLot, 0, function, SHAPE, 2, (value, value))
                self.fails_at(InvalidLot, 1, function, SHAPE, 2, [2, value])
            self.fails_at(InvalidLot, 2, function, SHAPE, 2, (0, 3, 3, None))

    def test_registers(self):
        for function in (lens_paper, lambda *given: lens_holds(*given, None)):
            for value in no_values(5):
                self.fails_at(InvalidIndex, 0, function, SHAPE, 2, value, None)
                self.fails_at(InvalidIndex, 1, function, SHAPE, 2, 4, value)

    def test_lists_and_names(self):
        for function in (lens_bottoms, cut_paper, nearest_cuts):
            self.same_in_lists(function, SHAPE, 2, (3,))
        self.same_in_lists(is_cut, SHAPE, 2, (3,), (0,))
        paper = self.same_in_lists(lens_paper, SHAPE, 2, 3, 0)
        self.assertIs(lens_holds(value=paper, number=0, end=3, size=2, shape=in_lists(SHAPE)), True)
        self.assertIs(cut_holds(value=cut_paper(SHAPE, 2, (3,)), ends=[3], size=2, shape=in_lists(SHAPE)), True)


if __name__ == "__main__":
    unittest.main()
