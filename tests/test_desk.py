"""[71], [72]: the desk, its commands, and what it shows."""

import random
import unittest

from foldsall.arrows import sure_pairs
from foldsall.bench import bench_behind
from foldsall.court import court_paper
from foldsall.desk import Desk
from foldsall.errors import FoldError, InvalidCommand, InvalidIndex, InvalidProgram, Refused
from foldsall.folding import folded_values, kept_sets
from foldsall.live import Live
from foldsall.passes import cut_program, plain_form, whole_program
from foldsall.programs import need_program
from foldsall.reading import read_program
from foldsall.runs import run_values, shown_values
from foldsall.texts import book_text, program_text
from tests.helpers import AND, ANYTHING, LEAST, MOST, NOT, OR, TURN, XOR, Fails

BOOK = (2, (AND, NOT))
KEY = (("&", 2, "left"), "not")
OPENED = "open 0 1\nsize 2\n& 2 left : 0 0 0 1\nnot 1 : 1 0\nin a\nout a & 0"
BOOKS = ((BOOK, KEY), ((3, (LEAST, TURN)), ("min", "turn")), ((2, (XOR, OR)), (("^", 3, "left"), ("|", 1, "right"))), ((3, (LEAST, MOST)), ("min", "max")))


def expression(dice, book, key, many, deep):
    """The text of a random expression, and its tree."""
    if deep == 0 or dice.random() < 0.3:
        if many and dice.random() < 0.6:
            number = dice.randrange(many)
            return f"r{number}", ("name", number)
        value = dice.randrange(book[0])
        return str(value), ("value", value)
    number = dice.randrange(len(book[1]))
    arms = [expression(dice, book, key, many, deep - 1) for _ in range(book[1][number][0])]
    if isinstance(key[number], str):
        text = key[number] + "(" + ", ".join(text for text, _ in arms) + ")"
    else:
        text = "(" + arms[0][0] + ") " + key[number][0] + " (" + arms[1][0] + ")"
    return text, ("of", number, [tree for _, tree in arms])


def rows_of_tree(tree, many):
    """The rows of a tree, arms first, and the register of it."""
    if tree[0] == "name":
        return [], tree[1]
    if tree[0] == "value":
        return [("told", tree[1])], many
    rows, reads = [], []
    for arm in tree[2]:
        more, number = rows_of_tree(arm, many + len(rows))
        rows += more
        reads.append(number)
    return rows + [("of", tree[1], tuple(reads))], many + len(rows)


def shown(values):
    return " ".join("?" if value is None else str(value) for value in values)


def opened(book, key, program, one, other):
    return f"open {one} {other}\n" + book_text(book, key) + "\n" + program_text(book, key, program)


class Model:
    """What stands at a desk, by deeds."""

    def __init__(self, book, key, program, one, other):
        self.key, self.start = key, (book, program[0], one, other)
        self.deeds, self.undone = [("put", row) for row in program[1]] + [("ends", program[2])], []

    def bench(self, deeds=None):
        return bench_behind(*self.start, self.deeds if deeds is None else deeds)

    def do(self, deeds):
        """What is shown, or the error."""
        looked = []
        for deed in deeds:
            live = Live(*self.start)
            for one in self.deeds:
                live.do_deed(one)
            looked += live.do_deed(deed)
            self.deeds.append(deed)
            self.undone = []
        return " ".join(f"r{number}" for number in looked) or "none"


def random_deed(dice, model):
    """A command of a deed, and what it does."""
    book, (lists, rows, _) = model.start[0], model.bench().program_now()
    many = len(lists) + len(rows)
    word = dice.choice(("put", "put", "set", "take", "list", "ends"))
    number = dice.randrange(many + 1)
    if word in ("put", "set"):
        text, tree = expression(dice, book, model.key, many, 2)
        made, _ = rows_of_tree(tree, many)
        if not made or (word == "set" and len(made) > 1):
            return f"{word} {text}" if word == "put" else f"set r{number} {text}", None
        return (f"put {text}", [("put", row) for row in made]) if word == "put" else (f"set r{number} {text}", [("set", number, made[0])])
    if word == "take":
        return f"take r{number}", [("take", number)]
    if word == "list":
        values = tuple(value for value in range(book[0]) if dice.random() < 0.7) or (0,)
        return f"list r{number} " + " ".join(map(str, values)), [("list", number, values)]
    ends = tuple(dice.randrange(many + (dice.random() < 0.1)) for _ in range(dice.randrange(3))) if many else ()
    return " ".join(["ends"] + [f"r{end}" for end in ends]), [("ends", ends)]


class DeskTest(Fails, unittest.TestCase):
    def look_at(self, desk, model):
        bench = model.bench()
        program, book = bench.program_now(), model.start[0]
        text = desk.say("program")
        self.assertEqual(text, program_text(book, model.key, program))
        self.assertEqual(read_program(book, model.key, text), program)
        folded = folded_values(book, program)
        self.assertEqual(desk.say("folded"), shown(folded))
        self.assertEqual(desk.say("kept"), ", ".join(shown(lot) for lot in kept_sets(book, program)))
        runs = []
        for value in model.start[2:]:
            run = tuple(value if len(values) > 1 else values[0] for values in program[0])
            whole = (tuple(tuple(range(book[0])) for _ in program[0]),) + program[1:]
            runs.append([values[0] for values in run_values(book, whole, run, ())])
        self.assertEqual(desk.say("runs"), ", ".join(shown(pair) for pair in zip(*runs)))
        if model.start[2:] in sure_pairs(book):
            self.assertEqual([value is None for value in folded], [one != other for one, other in zip(*runs)])
        self.assertEqual(desk.live.deeds, tuple(model.deeds))
        self.assertEqual(desk.key, model.key)
        plain = whole_program(book, plain_form(book, cut_program(book, program)))
        self.assertEqual(desk.say("plain"), program_text(book, model.key, plain))

    def test_whatever_is_said(self):
        counts = {"done": 0, "failed": 0, "unsaid": 0, "if": 0}
        for seed in range(48):
            dice = random.Random(seed)
            book, key = BOOKS[seed % 4]
            desk = Desk()
            program = (((0, 1), tuple(range(book[0])))[:seed % 3], (("told", 1), ("of", 0, (0, 0)))[:1 + bool(seed % 3)], (0,))
            program = need_program(book, program if seed % 3 else ((), (("told", 1), ("of", 0, (0, 0))), (1, 1)))
            one, other = dice.randrange(book[0]), dice.randrange(book[0])
            model = Model(book, key, program, one, other)
            self.assertEqual(desk.say(opened(book, key, program, one, other)), "yes")
            for _ in range(14):
                dicing = dice.random()
                if dicing < 0.2:
                    self.assertEqual(desk.say("undo"), "yes" if model.deeds else "no")
                    if model.deeds:
                        model.undone.append(model.deeds.pop())
                elif dicing < 0.3:
                    self.assertEqual(desk.say("redo"), "yes" if model.undone else "no")
                    if model.undone:
                        model.deeds.append(model.undone.pop())
                elif dicing < 0.45:
                    self.say_if(dice, desk, model, counts)
                else:
                    self.say_deed(dice, desk, model, counts)
                self.look_at(desk, model)
            for number in range(len(model.deeds) + 1):
                self.assertEqual(desk.say(f"then {number}"), shown(model.bench(model.deeds[:number]).folded_now()))
            self.fails_at(InvalidIndex, -1, desk.say, f"then {len(model.deeds) + 1}")
            self.look_at(desk, model)
        self.assertGreater(min(counts.values()), 25)

    def say_deed(self, dice, desk, model, counts):
        command, deeds = random_deed(dice, model)
        if deeds is None:
            self.fails(InvalidCommand, {}, desk.say, command)
            counts["unsaid"] += 1
            return
        try:
            expected = model.do(deeds)
        except FoldError as error:
            self.fails_at(type(error), error.at, desk.say, command)
            counts["failed"] += 1
        else:
            self.assertEqual(desk.say(command), expected)
            counts["done"] += 1

    def say_if(self, dice, desk, model, counts):
        command, deeds = random_deed(dice, model)
        number = dice.randrange(len(model.deeds) + 1)
        if deeds is None or len(deeds) > 1:
            self.fails(InvalidCommand, {}, desk.say, f"if {number} {command}")
        elif number == len(model.deeds):
            self.fails_at(InvalidIndex, -1, desk.say, f"if {number} {command}")
        else:
            deeds = model.deeds[:number] + deeds + model.deeds[number + 1:]
            many = number
            while many < len(deeds):
                try:
                    model.bench(deeds[:many + 1])
                except FoldError:
                    break
                many += 1
            self.assertEqual(desk.say(f"if {number} {command}"), f"{many}: " + shown(model.bench(deeds[:many]).folded_now()))
            counts["if"] += 1

    def test_told_desk(self):
        desk = Desk()
        self.assertEqual((desk.live, desk.key), (None, None))
        self.assertEqual((desk.say("open 0 1\nsize 2\n& 2 left : 0 0 0 1\nin a\nout a & 0"), desk.say("folded"),
                          desk.say("put r0 & r2 & 1")), ("yes", "? 0 0", "r3 r4 r5"))
        self.assertEqual((desk.say("program").split("\n"), desk.say("runs"), desk.say("court")[:6]),
                         (["in r0", "r2 = r0 & 0", "r5 = r0 & r2 & 1", "out r2"], "0 1, 0 0, 0 0, 0 0, 1 1, 0 0", "arrows"))
        self.assertEqual(desk.say("set r1 1"), "r1 r2 r3 r5")
        self.assertEqual(desk.say("kept"), "0 1, 1, 0 1, 0 1, 1, 0 1")
        self.assertEqual((desk.say("ends"), desk.say("ends r2 r2"), desk.say("take r5"), desk.say("list r0 1")), ("none", "none", "none", "r0 r2 r3"))
        self.assertEqual(desk.say("plain"), "in r0 : 1\nr1 = 1\nout r1, r1")
        self.assertEqual((desk.say("undo"), desk.say("folded"), desk.say("redo"), desk.say("redo")), ("yes", "? 1 ? ? 1", "yes", "no"))
        self.assertEqual((desk.say("then 0"), desk.say("then 1"), desk.say("if 0 put 0")), ("?", "? 0", "11: 1 1 1 1 1"))
        self.assertEqual((desk.say("if 3 take r1"), desk.say("if 3 ends"), desk.say("if 5 put 0")), ("3: ? 0 0", "5: ? 0 0 1", "11: 1 1 1 1 1"))
        # What follows an `open` anew; what can't be told lets stand what stood.
        kept = desk.live
        for command in ("open 0 2\nsize 2\nout", "open 2 0\nsize 2\nout"):
            self.fails_at(InvalidIndex, 1 if command[5] == "0" else 0, desk.say, command)
            self.assertIs(desk.live, kept)
        self.assertEqual(desk.say(command="open 1 1\nsize 4\nout"), "yes")
        self.assertEqual([desk.say(word) for word in ("folded", "kept", "runs", "program", "plain", "then 0", "then 1", "undo", "undo", "redo")],
                         ["", "", "", "out", "out", "", "", "yes", "no", "yes"])
        self.assertEqual(desk.key, ())
        self.assertIsInstance(desk.live, Live)
        self.assertEqual(desk.say("if 0 ends"), "1: ")

    def test_deeds_of_what_is_said(self):
        desk = Desk()
        desk.say(OPENED)
        self.assertEqual(desk.live.deeds, (("put", ("told", 0)), ("put", ("of", 0, (0, 1))), ("ends", (2,))))
        desk.say("put not(r0 & 1) & not( not(0)&r2 )")
        self.assertEqual(desk.live.deeds[3:], (("put", ("told", 1)), ("put", ("of", 0, (0, 3))), ("put", ("of", 1, (4,))), ("put", ("told", 0)),
                                               ("put", ("of", 1, (6,))), ("put", ("of", 0, (7, 2))), ("put", ("of", 1, (8,))),
                                               ("put", ("of", 0, (5, 9)))))
        desk.say("set r10 r9 & (r9)")
        desk.say("set r9 not(r0)")
        desk.say("set r3 0")
        desk.say("list r0 0 1")
        desk.say("ends r10 r0")
        self.assertEqual(desk.live.deeds[11:], (("set", 10, ("of", 0, (9, 9))), ("set", 9, ("of", 1, (0,))), ("set", 3, ("told", 0)),
                                                ("list", 0, (0, 1)), ("ends", (10, 0))))

    def test_what_deeds_raise(self):
        desk = Desk()
        desk.say(OPENED)
        kept = desk.live.deeds
        for command, error, at in (("take r0", InvalidIndex, -1), ("take r3", InvalidIndex, -1), ("take r9999", InvalidIndex, -1),
                                   ("take r2", Refused, 2), ("take r1", Refused, 1), ("set r0 1", InvalidIndex, -1), ("set r3 1", InvalidIndex, -1),
                                   ("set r1 not(r2)", InvalidProgram, 1), ("set r2 not(r2)", InvalidProgram, 1), ("list r1 0", InvalidIndex, -1),
                                   ("list r7 0", InvalidIndex, -1), ("list r0 2", InvalidProgram, 0), ("list r0 1 0", InvalidProgram, 0),
                                   ("list r0 0 0", InvalidProgram, 0), ("ends r3", InvalidProgram, 2), ("ends r0 r9999", InvalidProgram, 2),
                                   ("then 4", InvalidIndex, -1), ("then 9999", InvalidIndex, -1), ("if 3 put 0", InvalidIndex, -1),
                                   ("if 9999 take r1", InvalidIndex, -1)):
            self.fails_at(error, at, desk.say, command)
        self.assertEqual(desk.live.deeds, kept)
        self.assertEqual((desk.say("if 0 take r9"), desk.say("if 1 list r0 2"), desk.say("if 2 ends r7")), ("0: ?", "1: ? 0", "2: ? 0 0"))

    def test_what_has_no_form(self):
        desk = Desk()
        wrong = ["", " ", "\n", "undo ", " undo", "undo 1", "Undo", "undone", "redo ", "program 1", "folded ", "folded\n", "kept 0", "runs ", "plain ",
                 "court ", "then", "then ", "then  1", "then 01", "then 00001", "then 12345", "then -1", "then 1 ", "then 1 2", "then x", "then r1",
                 "if", "if ", "if 0", "if 0 ", "if 0 undo", "if 0 put", "if 0  put 1", "if 00 put 1", "if 0 put r0", "if 0 put not(not(0))",
                 "if 0 put 1 & 1", "if 12345 put 1", "if put 1", "if 0 program", "if 0 then 1", "if 0 open 0 1", "if 0 if 0 put 1", "put", "put ",
                 "put r0", "put (r0)", "put r3", "put r9999", "put a", "put not(a)", "put r00", "put not(r00)", "put not(r00000)", "put 2", "put 00", "put r0 &",
                 "put not r0", "put r0 & r1\n", "put not(r3)", "put r0 + r1", "put not(r)", "set", "set ", "set r1", "set r1 ", "set r1 r0", "set 1 0", "set r 0",
                 "set r01 0", "set r12345 0", "set  r1 0", "set r1 not(1)", "set r1 r0 & not(r0)", "set r1 not(r7)", "set x 0", "take", "take ",
                 "take 1", "take r1 ", "take  r1", "take r1 r2", "take r01", "take r12345", "take R1", "list", "list ", "list r0", "list r0 ", "list r0 0 ",
                 "list r0  0", "list r0 00", "list r0 r1", "list 0 0", "list r0 12345", "list r00 1", "ends ", "ends  r0", "ends r0 ", "ends r0  r1",
                 "ends 0", "ends r00", "ends r", "ends r12345", "ends r0,r1", "puts 1", "open", "open ", "open 0 1", "open 0 1\n", "OPEN 0 1\nsize 2\nout"]
        for value in [command for command in wrong] + ["undo", "redo", "program", "folded", "kept", "runs", "plain", "court", "then 0", "if 0 put 0",
                                                       "put 0", "set r0 0", "take r0", "list r0 0", "ends"]:
            self.fails(InvalidCommand, {}, desk.say, value)
        self.assertEqual((desk.live, desk.key), (None, None))
        desk.say(OPENED)
        kept = desk.live, desk.live.deeds
        for value in wrong + [value for value in ANYTHING if not isinstance(value, str)]:
            self.fails(InvalidCommand, {}, desk.say, value)
        self.assertEqual((desk.live, desk.live.deeds), kept)
        self.assertEqual(desk.say("program"), "in r0\nout r0 & 0")
        with self.assertRaises(TypeError):
            iter(desk)
        with self.assertRaises(TypeError):
            len(desk)

    def test_texts_that_cannot_be_read(self):
        desk = Desk()
        desk.say(OPENED)
        kept = desk.live
        book = "size 2\n& 2 left : 0 0 0 1\nnot 1 : 1 0"
        for command in ("open 0 1 " + book + "\nout", "open 0 1\n\n" + book + "\nout", "open 0 1\n" + book, "open 0 1\n" + book + "\n", "open 0 1\nout",
                        "open 0 1\nin a\nout", "open 0 1\n" + book + "\n\nout", "open 0 1\n" + book + "\nout\n", "open 0 1\n" + book + "\nout a",
                        "open 0 1\n" + book + "\nin a\nin a\nout", "open 0 1\n" + book + "\nin a : 1 0\nout", "open 0 1\nsize 9\nout",
                        "open 0 1\nsize 2\nnot 1 : 1 2\nout", "open 0 1\nsize 2\nr0 1 : 1 0\nout", "open 0 1\n" + book + "\nin a\neither\nelse\nend\nout",
                        "open 0 1\n" + book + "\nin a\nb = 0\neither\nelse\nend\nout", "open 0 1\n" + book + "\nin a\nloop 2 b = a\nagain b\nend\nout b",
                        "open 0 1\n" + book + "\nin a\nif a = 0\nelse\nend\nout", "open 0 1\nout\n" + book, "open 00 1\n" + book + "\nout",
                        "open 0\n" + book + "\nout", "open 0 1 1\n" + book + "\nout", "open  0 1\n" + book + "\nout", "open 0 1 \n" + book + "\nout",
                        "open 0  1\n" + book + "\nout", "open r0 1\n" + book + "\nout", "open 0 12345\n" + book + "\nout", "open\n0 1\n" + book + "\nout",
                        "open 0 1\nsize 2\n" + "not 1 : 1 0\n" * 2 + "out", "open 0 1\n" + book + "\nout 2", "open 0 1\nsize 2 & 2 left : 0 0 0 1\nout"):
            self.fails(InvalidCommand, {}, desk.say, command)
            self.assertIs(desk.live, kept)
        for rest in ("\nout", "\n out ", "\nin a\n b = a&0\nout b", "\na=0\nout a", "\n  in b\nout", "\nfirst = not(1)\nout"):
            self.assertEqual(desk.say("open 0 1\n" + book + rest), "yes")

    def test_court(self):
        for book, key in BOOKS + (((2, ()), ()), ((3, (TURN,)), ("t",)), ((3, ((1, (0, 0, 1)),)), ("t",))):
            desk = Desk()
            desk.say(opened(book, key, ((), (), ()), 0, 1))
            word, told = court_paper(book)
            text = desk.say("court")
            if word == "arrows":
                self.assertEqual(text, "arrows " + ", ".join(shown(pair) for pair in told))
            else:
                self.assertEqual(text, "story\n" + program_text(book, key, told))
                # Opened with its book it has an end with `?`, and one value in all runs.
                self.assertEqual(desk.say("open 0 1\n" + book_text(book, key) + text[len("story"):]), "yes")
                program = desk.live.bench.program_now()
                self.assertEqual(program, told)
                self.assertEqual(desk.say("folded").split(" ")[told[2][0]], "?")
                self.assertEqual(len(shown_values(book, program)[told[2][0]]), 1)

    def test_the_limits(self):
        desk = Desk()
        book, key = BOOKS[3]
        desk.say(opened(book, key, (((0, 1, 2), (0, 1, 2)), (), ()), 0, 2))
        long = "max(min(r0, 1), max(min(r1, 2), " * 5 + "0" + "))" * 5
        self.assertLess(len("put " + long), 200)
        self.assertEqual(len(desk.say("put " + long).split(" ")), 31)
        self.assertEqual(desk.say("undo"), "yes")
        self.assertEqual(desk.say("program").split("\n")[0], "in r0")


if __name__ == "__main__":
    unittest.main()
