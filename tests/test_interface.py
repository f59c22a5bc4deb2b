"""The interface: names, arguments, defaults, and the file in which each is defined; calls tell the same again."""

import ast
import importlib
import inspect
import os
import unittest

import foldsall

INTERFACE = {
    "sorts": "need_sorted(value) program_sorts(book,program) sorted_values(book,program,values) "
             "sorted_folds(book,program) sorted_kept(book,program,lists) sorts_reached(book) sort_parts(book)",
    "tables": "need_operation(size,value) need_book(value) held_table(size,operation,held) "
              "settled_value(size,operation,held) hung_places(size,operation) least_table(size,operation) "
              "two_places(size,operation) joined_table(size,operation,tables)",
    "arrows": "least_arrows(book,one,other) are_arrows(book,value) sure_pairs(book)",
    "books": "keeps_pairs(size,pairs,operation) kept_maps(size,pairs) apart_pairs(size,pairs) pairs_kind(size,pairs) "
             "grown_pairs(size,pairs) further_map(size,pairs) all_greatest(size) greatest_over(book)",
    "cells": "rising_paper(size,operation) rising_holds(size,operation,value) book_cells(book) "
             "book_cells_hold(book,value)",
    "levels": "expression_text(book,key,tree)",
    "programs": "need_program(book,value) register_count(book,program) is_straight(book,program) "
                "register_sources(book,program) put_behind(book,one,other) unrolled(book,program,turns)",
    "sortrows": "sorted_paper(book) sorted_holds(book,value) fewest_joint(book)",
    "counts": "whole_count(size,pairs,places) looked_form(size,pairs,operation) "
              "formed_operation(size,pairs,places,form) nth_operation(size,pairs,places,number) "
              "operation_number(size,pairs,operation) whole_operations(size,pairs,places) joining_count(book,places)",
    "court": "court_paper(book) court_holds(book,value) least_ranges(book) range_program(book,lot) lists_grade(book)",
    "folding": "kept_sets(book,program,k=None) folded_values(book,program) quick_sets(book,program,k=None) "
               "kept_paper(book,program,k=None) kept_holds(book,program,k,value)",
    "lots": "lot_paper(book,lot,values) lot_holds(book,lot,values,value) let_lots(book) pair_lots(book,one,other)",
    "passes": "cut_program(book,program) whole_program(book,cut) live_places(book,operation,held) told_lines(book,cut) "
              "passed(book,cut,words) plain_form(book,cut) missed_alike(book)",
    "reading": "read_expression(book,key,text) read_program(book,key,text) read_book(text)",
    "runs": "run_values(book,program,values,choices) run_ends(book,program,values,choices) "
            "straight_run(book,program,values,choices) all_runs(book,program,turns) runs_many(book,program) "
            "shown_values(book,program) shown_run(book,program,number,value)",
    "texts": "program_text(book,key,program) named_registers(book,program) book_text(book,key)",
    "turnings": "turned_paper(book) turned_holds(book,value) sort_sets_paper(book) sort_sets_hold(book,value)",
    "always": "always_paper(size,operation) always_holds(size,operation,value)",
    "bench": "bench_behind(book,inputs,one,other,deeds)",
    "boxes": "pair_rows(book,one,other) pair_paper(book,one,other) pair_holds(book,one,other,value) right_pairs(book)",
    "joins": "looks_at(book,operation) let_part(book,word) joins_paper(book) finds_paper(book) joins_hold(book,value) "
             "finds_hold(book,value)",
    "keeping": "reading_tree(book,program,number) double_inputs(book,program,number) opened_program(book,program,k) "
               "told_program(book,program)",
    "ladder": "merging_program(book,one,other) story_program(book) turn_book(values) fewest_lines(book,most) "
              "word_paper(book) word_holds(book,value)",
    "mends": "fewest_strikes(book,prices) strikes_hold(book,prices,value) let_constants(book)",
    "missed": "split_cases(book,program,lot) split_sets(book,program,lot) missed_values(book,program,lot) "
              "grounded_row(book,program,lot,number,value) is_grounded(book,program,lot,number,value,row)",
    "severals": "several_paper(book,many) several_holds(book,many,value) right_paper(book,many) "
                "right_holds(book,many,value) wrong_sizes(book) sizes_book(values,sizes)",
    "steps": "told_at_once(book,program) told_by_rounds(book,program) round_row(many) loop_gap()",
    "striking": "reached_lines(book,cut,number) rest_paper(book) rest_holds(book,value) hang_runs(book,paper,many,number) "
                "line_runs(book,paper,cut) needless_lines(book,cut)",
    "twos": "place_way(answers,place) has_kind(kind,answers) book_kind(book) written_program(book,answers) "
            "program_writes(book,answers,value) missed_rows(book) missed_program(book) missed_holds(book,value)",
    "code": "write_code(book,program) plain_code(book,program) run_code(book,code,values,choices) fewest_cells(book,cut) "
            "fewest_hold(book,cut,value)",
    "cuts": "lens_bottoms(shape,size,ends) lens_paper(shape,size,end,number) lens_holds(shape,size,end,number,value) "
            "is_cut(shape,size,ends,lot) cut_paper(shape,size,ends) nearest_cuts(shape,size,ends) "
            "cut_holds(shape,size,ends,value)",
    "loops": "turns_enough(size,heads) bounded_program(book,program) turns_program(size,heads) seen_program(size) "
             "let_many(size,places,word)",
    "splits": "is_enough(book,program,lot) torn_lots(book,program) least_splits(book,program) splits_paper(book,program) "
              "splits_hold(book,program,value) lots_program(many,lots) fewest_cases(book,program) "
              "tree_holds(book,program,value) chosen_program(many)",
    "spread": "list_rows(book,values,most) list_paper(book,values,most) list_holds(book,values,value) right_lists(book) "
              "all_right(book)",
    "trials": "trials_paper(book,many,runs) trials_hold(book,many,runs,value) fewest_trials(book,many) "
              "kind_count(kind,places) rising_answers(many)",
    "alikes": "alike_runs(lists) same_inputs(book,program) alike_run(book,program,number,value) "
              "alike_paper(book,lists,most) alike_holds(book,lists,value) runs_paper(book,lists,runs,most) "
              "runs_hold(book,lists,runs,value) fewest_runs(book,lists,most) "
              "telling_paper(book,values,part,kept,most) telling_holds(book,values,part,kept,value) "
              "telling_parts(book,values,kept,most)",
    "looks": "look_holds(value) make_look(word,question) wrong_looks(values)",
    "signs": "fits_shape(shape,book,program) program_shape(book,program) told_cut(book,program) "
             "lying_program(shape,size,ends,lot)",
}
CLASSES = {
    ("bench", "Bench"): "__init__(self,book,inputs,one,other) put_row(self,row) set_row(self,spot,row) "
                        "take_row(self,spot) set_list(self,number,values) set_ends(self,registers) program_now(self) "
                        "folded_now(self) kept_now(self) runs_now(self)",
    ("live", "Live"): "__init__(self,book,inputs,one,other) do_deed(self,deed) undo_deed(self) redo_deed(self) "
                      "folded_then(self,number) folded_if(self,number,deed) plain_now(self) code_now(self)",
    ("desk", "Desk"): "__init__(self) say(self,command)",
}


class InterfaceTest(unittest.TestCase):
    def test_functions(self):
        for name, told in INTERFACE.items():
            module = importlib.import_module("foldsall." + name)
            with open(module.__file__, encoding="utf-8") as source:
                defined = {node.name for node in ast.parse(source.read()).body if isinstance(node, ast.FunctionDef)}
            for head in told.split(" "):
                word, parameters = head.rstrip(")").split("(")
                self.assertIn(word, defined)
                signature = str(inspect.signature(getattr(module, word)))
                self.assertEqual(signature.replace(", ", ","), "(" + parameters + ")")

    def test_classes(self):
        for (name, word), told in CLASSES.items():
            module = importlib.import_module("foldsall." + name)
            with open(module.__file__, encoding="utf-8") as source:
                bodies = {node.name: node.body for node in ast.parse(source.read()).body if isinstance(node, ast.ClassDef)}
            defined = {node.name for node in bodies[word] if isinstance(node, ast.FunctionDef)}
            for head in told.split(" "):
                method, parameters = head.rstrip(")").split("(")
                self.assertIn(method, defined)
                signature = str(inspect.signature(getattr(getattr(module, word), method)))
                self.assertEqual(signature.replace(", ", ","), "(" + parameters + ")")

    def test_one_package(self):
        self.assertEqual(os.path.basename(os.path.dirname(foldsall.__file__)), "foldsall")
        for name in ("errors",) + tuple(INTERFACE):
            self.assertTrue(os.path.exists(os.path.join(os.path.dirname(foldsall.__file__), name + ".py")))


if __name__ == "__main__":
    unittest.main()
