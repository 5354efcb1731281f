"""Formulas, coformulas and trees that tell the sum, and where the others are wrong."""

from deepcodes.checks import are_bits, is_just, is_number, need_formula, need_n, need_tree, told_by
from deepcodes.errors import InvalidNumber
from deepcodes.letters.masks import coformula_mask, first_row, formula_mask, row_number, sum_mask, term_mask
from deepcodes.letters.rows import table_of_sum
from deepcodes.letters.terms import other_bits
from deepcodes.trees.trees import tree_mask, ways_behind

MOST_TERMS = 64


def need_few_terms(n):
    # For each letter behind the first one there are twice as many terms.
    if not is_number(n, 0, MOST_TERMS.bit_length()):
        raise InvalidNumber(n)


def terms_at(n, bit):
    """The ascending list of the terms with all letters that are true at one input with this sum."""
    terms = [()]
    for letter in range(n):
        terms = [(*term, (letter, answer)) for term in terms for answer in (0, 1)]
    return [term for term in terms if (sum([answer for _, answer in term]) & 1) == bit]


def sum_formula(n):
    """The formula that tells the sum, its terms ascending."""
    need_few_terms(n)
    return tuple(terms_at(n, 1))


def sum_coformula(n):
    """The coformula that tells the sum, its clauses ascending."""
    need_few_terms(n)
    # A clause with all letters is false at one input, where all its literals are broken.
    return tuple(sorted([other_bits(term) for term in terms_at(n, 0)]))


def sum_tree(n):
    """The tree that asks the letters ascending, and tells the sum."""
    need_n(n)
    return sum_tree_behind(n, 0, 0)


def sum_tree_behind(n, letter, bit):
    """The tree that asks this letter and those behind it, where the answers ahead have this sum."""
    if letter == n:
        return bit
    return (letter, sum_tree_behind(n, letter + 1, bit), sum_tree_behind(n, letter + 1, 1 - bit))


def answer_by(n, mask, many):
    """The answer of what has the value 1 at the inputs of the mask, and so many parts."""
    wrong = mask ^ sum_mask(n)
    return ("wrong", first_row(n, wrong)) if wrong else ("sum", many)


def is_answer_by(n, mask, many, value):
    row = told_by("wrong", value)
    wrong = mask ^ sum_mask(n)
    if are_bits(row, n):
        return (wrong >> row_number(row) & 1) == 1
    return wrong == 0 and is_just(value, ("sum", many))


def need_n_and_formula(n, formula):
    need_n(n)
    need_formula(n, formula)


def sum_answer(n, formula):
    """The number of unlike terms, if the formula tells the sum, else an input at which it does not."""
    need_n_and_formula(n, formula)
    return answer_by(n, formula_mask(n, formula), len(set(formula)))


def is_sum_answer(n, formula, value):
    need_n_and_formula(n, formula)
    return is_answer_by(n, formula_mask(n, formula), len(set(formula)), value)


def cosum_answer(n, formula):
    """The same for the formula read as a coformula, with the number of its unlike clauses."""
    need_n_and_formula(n, formula)
    return answer_by(n, coformula_mask(n, formula), len(set(formula)))


def is_cosum_answer(n, formula, value):
    need_n_and_formula(n, formula)
    return is_answer_by(n, coformula_mask(n, formula), len(set(formula)), value)


def need_n_and_tree(n, tree):
    need_n(n)
    need_tree(n, tree)


def tree_answer(n, tree):
    """The same for a tree, with the number of its ends."""
    need_n_and_tree(n, tree)
    return answer_by(n, tree_mask(n, tree), len(ways_behind(tree, ())))


def is_tree_answer(n, tree, value):
    need_n_and_tree(n, tree)
    return is_answer_by(n, tree_mask(n, tree), len(ways_behind(tree, ())), value)


def wrong_number(n, formula):
    """At how many inputs the formula does not tell the sum."""
    need_n_and_formula(n, formula)
    mask = formula_mask(n, formula)
    return len([number for number, bit in enumerate(table_of_sum(n)) if (mask >> number & 1) != bit])


def is_apart(n, formula):
    """Whether no two of the terms are true at one input."""
    need_n_and_formula(n, formula)
    ahead = 0
    for term in formula:
        mask = term_mask(n, term)
        if mask & ahead:
            return False
        ahead |= mask
    return True
