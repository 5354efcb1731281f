"""Codes of restrictions under which canonical trees are deep, and how they lead back."""

from deepcodes.canon.canonical import is_low_tree, need_beginning, need_deep, pieces_along, row_for
from deepcodes.checks import (
    has_code_form, need_code, need_depth, need_formula, need_n, need_number, need_work, told_by
)
from deepcodes.told.restrictions import count_with, restrictions_with, told_too
from deepcodes.trees.growth import canonical_grown


def code_for(restriction, formula, literals):
    """The code along some first literals of a way."""
    told = restriction
    triples = []
    for index, piece in pieces_along(restriction, formula, literals):
        told = told_too(told, piece)
        for literal in piece:
            _, answer = literals[len(triples)]
            end = 1 if literal == piece[-1] else 0
            triples.append((formula[index].index(literal), answer, end))
    return (told, tuple(triples))


def deep_code(restriction, formula, s):
    row = row_for(restriction, formula, s)
    return None if row is None else code_for(restriction, formula, row)


def code_of(restriction, formula, s):
    """The code for s, None if the canonical tree is less than s deep."""
    need_deep(restriction, formula, s)
    return deep_code(restriction, formula, s)


def code_along(restriction, formula, literals):
    """The code along a beginning of a way."""
    need_beginning(restriction, formula, literals)
    return code_for(restriction, formula, literals)


def first_not_false(here, formula):
    """The index of the first term that no told letter breaks, None without one."""
    for index, term in enumerate(formula):
        if all([here[letter] in (2, bit) for letter, bit in term]):
            return index
    return None


def traced(formula, code):
    """The triple of the indices of the terms taken in leading back, the literals found, and the result.

    None if the code leads to none.
    """
    told, triples = code
    here = told
    back = list(told)
    indices = []
    found = []
    does_begin = True
    for place, answer, end in triples:
        if does_begin:
            # The answers of a piece count from its end on, so its term is taken just once.
            here = told_too(here, found)
            index = first_not_false(here, formula)
            if index is None:
                return None
            indices.append(index)
        term = formula[indices[-1]]
        if place >= len(term):
            return None
        letter = term[place][0]
        # Found letters are free in `back`, and what is free there already cannot be found.
        if back[letter] == 2:
            return None
        back[letter] = 2
        found.append((letter, answer))
        does_begin = end == 1
    return tuple(indices), tuple(found), tuple(back)


def led_back(n, formula, code):
    """The restriction to which a code leads back, None if it leads to none."""
    need_n(n)
    need_formula(n, formula)
    need_code(n, code)
    trace = traced(formula, code)
    return None if trace is None else trace[2]


def terms_back(n, formula, code):
    """The indices of the terms that are taken in leading back, None if the code leads to none."""
    need_n(n)
    need_formula(n, formula)
    need_code(n, code)
    trace = traced(formula, code)
    return None if trace is None else trace[0]


def traced_along(n, formula, value):
    """The pair of the restriction and of the beginning along which the value is the code, or None."""
    if not has_code_form(n, value):
        return None
    trace = traced(formula, value)
    if trace is None:
        return None
    _, literals, restriction = trace
    # A code along a beginning leads back to this very restriction and these very answers.
    if pieces_along(restriction, formula, literals) is None or code_for(restriction, formula, literals) != value:
        return None
    return restriction, literals


def is_along(n, formula, value):
    """Whether the value is the code along some beginning of a way under some restriction."""
    need_n(n)
    need_formula(n, formula)
    return traced_along(n, formula, value) is not None


def is_code(n, formula, s, value):
    """Whether the value is the code of some restriction for s."""
    need_n(n)
    need_formula(n, formula)
    need_depth(s)
    trace = traced_along(n, formula, value)
    if trace is None:
        return False
    restriction, literals = trace
    return literals == row_for(restriction, formula, s)


def canon_answer(restriction, formula, s):
    """The canonical tree if it is less than s deep, else a code."""
    need_deep(restriction, formula, s)
    code = deep_code(restriction, formula, s)
    return ("tree", canonical_grown(restriction, formula)) if code is None else ("code", code)


def is_canon_answer(restriction, formula, s, value):
    need_deep(restriction, formula, s)
    trace = traced_along(len(restriction), formula, told_by("code", value))
    if trace is not None:
        back, literals = trace
        return back == restriction and len(literals) == s
    return is_low_tree(restriction, formula, s, told_by("tree", value))


def need_looked_at(n, formula, free, s):
    """The checks of what looks at all restrictions with so many free letters, its work limit among them."""
    need_n(n)
    need_formula(n, formula)
    need_number(free, 0, n)
    need_depth(s)
    need_work(count_with(n, free), len(formula))


def codes_at(n, formula, free, s):
    """The codes of all restrictions with so many free letters that are at least s deep, by numbers."""
    need_looked_at(n, formula, free, s)
    pairs = [(restriction, deep_code(restriction, formula, s)) for restriction in restrictions_with(n, free)]
    return {restriction: code for restriction, code in pairs if code is not None}
