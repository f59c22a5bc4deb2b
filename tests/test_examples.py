"""The examples that the document prints."""

import doctest
import unittest

EXAMPLES = r"""
>>> from foldsall.court import court_paper
>>> from foldsall.folding import folded_values
>>> from foldsall.runs import shown_values
>>> least, most = (2, (0, 0, 0, 0, 1, 1, 0, 1, 2)), (2, (0, 1, 2, 1, 1, 2, 2, 2, 2))
>>> program = (((0, 1, 2),), (("told", 1), ("of", 0, (0, 1)), ("of", 1, (2, 1))), (3,))
>>> folded_values((3, (least, most)), program), shown_values((3, (least, most)), program)
((None, 1, None, None), ((0, 1, 2), (1,), (0, 1), (1,)))
>>> court_paper((3, (least,)))[0], court_paper((3, (most,)))[0], court_paper((3, (least, most)))[0]
('arrows', 'arrows', 'story')

>>> from foldsall.runs import run_values, shown_values
>>> book = (3, ((1, (1, 2, 0)),))
>>> program = (((0, 1),), (("loop", None, (0,), (("of", 0, (1,)),), (2,)),), (1,))
>>> run_values(book, program, (1,), (2,)), shown_values(book, program)
(((1,), (1, 2, 0), (2, 0)), ((0, 1), (0, 1, 2), (0, 1, 2)))

>>> from foldsall.folding import folded_values, kept_sets, quick_sets
>>> book = (2, ((2, (0, 0, 0, 1)), (1, (1, 0))))
>>> program = (((0, 1),), (("told", 0), ("of", 0, (0, 1)), ("of", 1, (0,)), ("of", 0, (0, 3))), (4,))
>>> folded_values(book, program), kept_sets(book, program)[4], quick_sets(book, program)[1]
((None, 0, 0, None, None), (0, 1), (1, 1, 1, 1, 1))

>>> from foldsall.arrows import least_arrows, sure_pairs
>>> from foldsall.court import court_paper, least_ranges, lists_grade
>>> lesser = (2, ((2, (0, 0, 0, 1)),))
>>> sure_pairs(lesser), court_paper(lesser)[0], lists_grade(lesser)
(((0, 1), (1, 0)), 'arrows', 2)
>>> unlike = (2, ((2, (0, 1, 1, 0)),))
>>> least_arrows(unlike, 0, 1), court_paper(unlike)[0], least_ranges(unlike)
(((0, 0), (0, 1), (1, 0), (1, 1)), 'story', ((0,), (1,)))

>>> from foldsall.ladder import fewest_lines, turn_book, word_paper
>>> turn_book(3), fewest_lines(turn_book(3), 4), fewest_lines(turn_book(3), 3)
((3, ((1, (1, 2, 0)), (1, (0, 1, 0)))), 4, None)
>>> word_paper(turn_book(3))[:2]
('word', (1, 0, 0, 1))

>>> from foldsall.severals import right_paper, several_paper, sizes_book, wrong_sizes
>>> book = sizes_book(4, [2])
>>> book, wrong_sizes(book), several_paper(book, 2)[0], several_paper(book, 1)[0]
((4, ((1, (0, 1, 1, 2)),)), (2,), 'few', 'apart')
>>> right_paper((2, ((2, (0, 0, 0, 1)),)), 1)[0]
'right'

>>> from foldsall.boxes import pair_paper, right_pairs
>>> from foldsall.spread import all_right
>>> least, same = (3, ((2, (0, 0, 0, 0, 1, 1, 0, 1, 2)),)), (2, ((2, (1, 0, 0, 1)),))
>>> all_right(least), right_pairs(same), pair_paper(same, 0, 1)[0]
(True, (), 'lies')

>>> from foldsall.alikes import alike_paper, alike_runs
>>> alike_runs([(0, 1), (0, 2), (0, 1)])
((0, 0, 0), (0, 2, 0), (1, 0, 1), (1, 2, 1))
>>> alike_paper((2, ((2, (1, 0, 0, 1)),)), [(0, 1)], 9)[0]
'more'

>>> from foldsall.twos import book_kind, missed_rows, place_way
>>> from foldsall.trials import fewest_trials, kind_count, trials_paper
>>> both, odd = (2, ((2, (0, 0, 0, 1)),)), (2, ((2, (0, 1, 1, 0)),))
>>> book_kind(both), book_kind(odd), missed_rows(both), missed_rows(odd), place_way((0, 1, 1, 0), 1)
('ands', 'sums', 0, 1, 'both')
>>> fewest_trials(odd, 3), trials_paper(both, 2, [(1, 1), (0, 0)]), kind_count("ors", 2), kind_count("rising", 2)
(4, ('enough',), 5, 6)

>>> from foldsall.books import all_greatest, further_map
>>> from foldsall.counts import joining_count
>>> all_greatest(2), further_map(3, [(0, 1), (1, 2)]), joining_count((3, ()), 2)
((((0, 1),), ((0, 1), (1, 0))), (0, 0, 2), 183)

>>> from foldsall.joins import finds_paper, joins_paper, let_part
>>> book = (2, ((2, (0, 0, 0, 1)), (1, (1, 0)), (2, (0, 0, 1, 1))))
>>> joins_paper(book)[0], let_part(book, "finds"), finds_paper((2, book[1][1:]))
('lies', (1, 2), ('finds', (('one', 0, (1, 0)), ('one', 0, (0, 1)))))

>>> from foldsall.splits import least_splits, lots_program, torn_lots
>>> book, program = lots_program(3, [[0, 1], [0, 2], [1, 2]])
>>> torn_lots(book, program), least_splits(book, program)
(((0, 1), (0, 2), (1, 2)), ((0, 1), (0, 2), (1, 2)))

>>> from foldsall.cuts import cut_paper, lens_bottoms
>>> shape = (2, (((0, "up"), (1, "up")), ((0, "up"), (2, "down")), ((0, "up"), (2, "up"))))
>>> lens_bottoms(shape, 2, [3]), lens_bottoms(shape, 2, [4]), lens_bottoms(shape, 3, [4]), cut_paper(shape, 2, [3])
((0,), (), (0,), ((0,), ((0,),)))

>>> from foldsall.sorts import sort_parts, sorts_reached
>>> from foldsall.sortrows import fewest_joint, sorted_paper
>>> from foldsall.turnings import sort_sets_paper, turned_paper
>>> one = ((2, 2, 2), (((0, 1), 2, (0, 1, 1, 0)),))
>>> sort_parts(one), sorts_reached(one)[0], fewest_joint(one), sort_sets_paper(one)
(((0,), (1,), (2,)), (0, 2), ((0, 0, 0), (0, 1, 0), (1, 0, 1)), ('exact',))
>>> turned_paper(((2, 2), (((0,), 1, (1, 0)), ((1,), 0, (1, 0)))))[0], sorted_paper(((2,), (((0, 0), 0, (0, 1, 1, 0)),)))[0]
('turns', 'missed')

>>> from foldsall.bench import Bench
>>> bench = Bench((2, ((2, (0, 0, 0, 1)),)), [(0, 1)], 0, 1)
>>> bench.put_row(("told", 0)), bench.put_row(("of", 0, (0, 1))), bench.folded_now(), bench.runs_now()
(1, 2, (None, 0, 0), ((0, 1), (0, 0), (0, 0)))
>>> bench.set_row(1, ("told", 1)), bench.looked, bench.folded_now()
(None, (1, 2), (None, 1, None))

>>> from foldsall.live import Live
>>> live = Live((2, ((2, (0, 0, 0, 1)),)), [(0, 1)], 0, 1)
>>> live.do_deed(("put", ("told", 0))), live.do_deed(("put", ("of", 0, (0, 1)))), live.bench.folded_now()
((1,), (2,), (None, 0, 0))
>>> live.folded_if(0, ("put", ("told", 1))), live.undo_deed(), live.folded_then(1), live.redo_deed(), live.redo_deed()
((2, (None, 1, None)), True, (None, 0), True, False)

>>> from foldsall.desk import Desk
>>> desk = Desk()
>>> desk.say("open 0 1\nsize 2\n& 2 left : 0 0 0 1\nin a\nout a & 0"), desk.say("folded"), desk.say("put r0 & r2 & 1")
('yes', '? 0 0', 'r3 r4 r5')
>>> desk.say("program").split("\n"), desk.say("runs"), desk.say("court")[:6]
(['in r0', 'r2 = r0 & 0', 'r5 = r0 & r2 & 1', 'out r2'], '0 1, 0 0, 0 0, 0 0, 1 1, 0 0', 'arrows')
"""


class ExamplesTest(unittest.TestCase):
    def test_examples(self):
        names = {}
        examples = doctest.DocTestParser().get_examples(EXAMPLES)
        for example in examples:
            if example.want:
                self.assertEqual(repr(eval(example.source, names)) + "\n", example.want)
            else:
                exec(example.source, names)
        self.assertEqual(len(examples), EXAMPLES.count(">>>"))


if __name__ == "__main__":
    unittest.main()
