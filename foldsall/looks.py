"""Looks: papers with what they tell of, made and looked at by the words of their judges."""

from foldsall.boxes import pair_holds, pair_paper
from foldsall.code import fewest_cells, fewest_hold
from foldsall.common import is_row_of, is_sequence, is_tuple_of
from foldsall.court import court_holds, court_paper
from foldsall.errors import FoldError, Refused
from foldsall.folding import kept_holds, kept_paper
from foldsall.joins import finds_hold, finds_paper, joins_hold, joins_paper
from foldsall.severals import right_holds, right_paper, several_holds, several_paper
from foldsall.splits import splits_hold, splits_paper
from foldsall.striking import rest_holds, rest_paper


# How many things the functions of a word take.
TAKEN = {
    "court": 1,
    "rest": 1,
    "joins": 1,
    "finds": 1,
    "pair": 3,
    "several": 2,
    "right": 2,
    "kept": 3,
    "splits": 2,
    "cells": 2,
}


def is_word(value):
    """Whether any value is the word of a look."""
    return isinstance(value, str) and value in TAKEN


def made_paper(word, question):
    """What the first function of a word tells."""
    if word == "court":
        return court_paper(question[0])
    if word == "rest":
        return rest_paper(question[0])
    if word == "joins":
        return joins_paper(question[0])
    if word == "finds":
        return finds_paper(question[0])
    if word == "pair":
        return pair_paper(question[0], question[1], question[2])
    if word == "several":
        return several_paper(question[0], question[1])
    if word == "right":
        return right_paper(question[0], question[1])
    if word == "kept":
        return kept_paper(question[0], question[1], question[2])
    if word == "splits":
        return splits_paper(question[0], question[1])
    return fewest_cells(question[0], question[1])


def does_paper_hold(word, question, value):
    """Whether the second function of a word tells that a paper holds."""
    if word == "court":
        return court_holds(question[0], value)
    if word == "rest":
        return rest_holds(question[0], value)
    if word == "joins":
        return joins_hold(question[0], value)
    if word == "finds":
        return finds_hold(question[0], value)
    if word == "pair":
        return pair_holds(question[0], question[1], question[2], value)
    if word == "several":
        return several_holds(question[0], question[1], value)
    if word == "right":
        return right_holds(question[0], question[1], value)
    if word == "kept":
        return kept_holds(question[0], question[1], question[2], value)
    if word == "splits":
        return splits_hold(question[0], question[1], value)
    return fewest_hold(question[0], question[1], value)


def has_lists(value):
    """Whether any value is a list, or has one at any depth."""
    if isinstance(value, list):
        return True
    return isinstance(value, tuple) and any([has_lists(part) for part in value])


def in_tuples(value):
    """Any value with its lists turned to tuples, at any depth."""
    return tuple([in_tuples(part) for part in value]) if is_sequence(value) else value


def is_look(value):
    """Whether any value is a look that holds."""
    if not is_tuple_of(3, value) or has_lists(value) or not is_word(value[0]):
        return False
    word, question, paper = value
    if not is_tuple_of(TAKEN[word], question):
        return False
    try:
        return does_paper_hold(word, question, paper)
    except FoldError:
        return False


def look_holds(value):
    """Whether any value is a look that holds."""
    return is_look(value)


def make_look(word, question):
    """The look with what its word tells of a question."""
    if not is_word(word):
        raise Refused("word")
    if not is_row_of(TAKEN[word], question):
        raise Refused("question")
    question = in_tuples(question)
    return (word, question, made_paper(word, question))


def wrong_looks(values):
    """The places of those values that are no looks that hold, ascending."""
    if not is_sequence(values):
        raise Refused("looks")
    return tuple([at for at, value in enumerate(values) if not is_look(value)])
