"""Canonical trees: their depths, their deep rows, and the pieces of their ways."""

from deepcodes.checks import (
    is_bit, is_number, is_tree_of, is_tuple_of, need_any_restriction, need_depth, need_formula, need_n, need_row,
    told_by
)
from deepcodes.errors import InvalidOperation
from deepcodes.letters.masks import term_mask
from deepcodes.told.restrictions import does_fit
from deepcodes.trees.growth import canonical_grown, deep_grown, first_open, letters_in, mark_of_told, marks_of
from deepcodes.trees.trees import depth_below


def need_both(restriction, formula):
    need_any_restriction(restriction)
    need_formula(len(restriction), formula)


def canonical_tree(restriction, formula):
    need_both(restriction, formula)
    return canonical_grown(restriction, formula)


def is_canonical(restriction, formula, value):
    need_both(restriction, formula)
    return is_canonical_tree(restriction, formula, value)


def is_canonical_tree(restriction, formula, value):
    # Only what is a tree is compared, as True is not 1.
    return is_tree_of(len(restriction), value) and value == canonical_grown(restriction, formula)


def canonical_depth(restriction, formula):
    """The depth of the canonical tree."""
    need_both(restriction, formula)
    return depth_below(canonical_grown(restriction, formula))


def need_deep(restriction, formula, s):
    need_both(restriction, formula)
    need_depth(s)


def row_for(restriction, formula, s):
    """The deep row for s, None if there is none."""
    told, ones = mark_of_told(restriction)
    return deep_grown(marks_of(formula), 0, told, ones, s)


def deep_row(restriction, formula, s):
    """The deep row for s, None if the canonical tree is less than s deep."""
    need_deep(restriction, formula, s)
    return row_for(restriction, formula, s)


def is_beginning(restriction, formula, value):
    """Whether the value is a tuple of the first literals along a way of the canonical tree."""
    need_both(restriction, formula)
    return pieces_along(restriction, formula, value) is not None


def are_answers(value, letters):
    """Whether the value is a tuple of literals of the first of these letters, one for each."""
    return all([
        is_tuple_of(literal, 2) and is_number(literal[0], letter, letter) and is_bit(literal[1])
        for literal, letter in zip(value, letters)
    ])


def pieces_along(restriction, formula, value):
    """The pieces of the first literals along a way, None if the value is none such."""
    if not isinstance(value, tuple):
        return None
    marks = marks_of(formula)
    told, ones = mark_of_told(restriction)
    pairs = []
    index = at = 0
    while at < len(value):
        taken = first_open(marks, index, told, ones)
        if taken is None or taken[1] == 0:
            return None
        index, left = taken
        letters = letters_in(left)
        part = value[at:at + len(letters)]
        if not are_answers(part, letters):
            return None
        ones += sum([answer << letter for letter, answer in part])
        # A cut piece is the last one, so nothing looks any more at those of its letters that are not answered.
        told += left
        asked = letters[:len(part)]
        pairs.append((index, tuple([literal for literal in formula[index] if literal[0] in asked])))
        at += len(part)
    return tuple(pairs)


def need_beginning(restriction, formula, literals):
    need_both(restriction, formula)
    if pieces_along(restriction, formula, literals) is None:
        raise InvalidOperation("these are no first literals along a way of the canonical tree")


def pieces(restriction, formula, literals):
    """For each piece the index of its term, and the literals of this term whose letters the piece has."""
    need_beginning(restriction, formula, literals)
    return pieces_along(restriction, formula, literals)


def deep_answer(restriction, formula, s):
    """The canonical tree if it is less than s deep, else first literals along a way."""
    need_deep(restriction, formula, s)
    row = row_for(restriction, formula, s)
    return ("tree", canonical_grown(restriction, formula)) if row is None else ("row", row)


def is_deep_answer(restriction, formula, s, value):
    need_deep(restriction, formula, s)
    row = told_by("row", value)
    if is_tuple_of(row, s):
        return pieces_along(restriction, formula, row) is not None
    return is_low_tree(restriction, formula, s, told_by("tree", value))


def is_low_tree(restriction, formula, s, value):
    """Whether the value is the canonical tree, and less than s deep."""
    return is_canonical_tree(restriction, formula, value) and depth_below(value) < s


def way_at(restriction, formula, row):
    """The literals that the canonical tree asks at an input, with their answers."""
    need_both(restriction, formula)
    need_row(len(restriction), row)
    if not does_fit(row, restriction):
        raise InvalidOperation("the input has not the told bits")
    tree = canonical_grown(restriction, formula)
    literals = []
    while isinstance(tree, tuple):
        letter, low, high = tree
        literals.append((letter, row[letter]))
        tree = high if row[letter] else low
    return tuple(literals)


def indices_used(n, formula):
    """The ascending indices of the terms that some input keeps, and no term ahead."""
    ahead = 0
    indices = []
    for index, term in enumerate(formula):
        mask = term_mask(n, term)
        if mask & ~ahead:
            indices.append(index)
        ahead |= mask
    return indices


def used_terms(n, formula):
    """The ascending tuple of the indices of the used terms."""
    need_n(n)
    need_formula(n, formula)
    return tuple(indices_used(n, formula))


def shortened(n, formula):
    """The formula of the used terms, in their sequence."""
    need_n(n)
    need_formula(n, formula)
    return tuple([formula[index] for index in indices_used(n, formula)])
