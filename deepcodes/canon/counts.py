"""How many restrictions are deep, and how many codes there can be for them."""

from itertools import combinations
from math import comb

from deepcodes.canon.canonical import need_deep, row_for
from deepcodes.canon.codes import deep_code, need_looked_at
from deepcodes.checks import (
    has_code_form, is_restriction_of, is_triple, is_tuple_of, need_depth, need_formula, need_n, need_number,
    need_work, told_by
)
from deepcodes.letters.terms import greatest_width
from deepcodes.powers import power
from deepcodes.told.restrictions import count_with, literals_told, restrictions_with, told_too
from deepcodes.trees.growth import is_deep_under, marks_of


def rows_counted(width, s):
    """The number of rows of s triples for the width."""
    counts = [1]
    for size in range(1, s + 1):
        counts.append(sum([comb(width, first) * counts[size - first] << first for first in range(1, size + 1)]))
    return counts[s]


def row_number(width, s):
    """How many rows of s triples there are for the width."""
    need_number(width, 0, 10)
    need_depth(s)
    return rows_counted(width, s)


def is_row(width, s, value):
    need_number(width, 0, 10)
    need_depth(s)
    if not is_tuple_of(value, s) or not all([is_triple(triple) and triple[0] < width for triple in value]):
        return False
    if s > 0 and value[-1][2] == 0:
        return False
    return all([one[2] == 1 or one[0] < other[0] for one, other in zip(value, value[1:])])


def deep_ones(n, formula, free, s):
    """The list of the deep restrictions with so many free letters, by numbers."""
    marks = marks_of(formula)
    return [restriction for restriction in restrictions_with(n, free) if is_deep_under(marks, restriction, s)]


def deep_restrictions(n, formula, free, s):
    """All restrictions with so many free letters that are at least s deep, by numbers."""
    need_looked_at(n, formula, free, s)
    return tuple(deep_ones(n, formula, free, s))


def deep_number(n, formula, free, s):
    """How many restrictions with so many free letters are at least s deep."""
    need_looked_at(n, formula, free, s)
    return len(deep_ones(n, formula, free, s))


def count_paper(n, formula, free, s):
    """How many are deep, and three numbers: the first is at most the product of the next two, and of all."""
    need_looked_at(n, formula, free, s)
    rows = rows_counted(greatest_width(formula), s)
    behind = count_with(n, free - s) if s <= free else 0
    return (len(deep_ones(n, formula, free, s)), rows, behind, count_with(n, free))


def rows_at(restriction, formula, s):
    """The ascending rows of triples with which the restriction makes a code of some restriction."""
    need_deep(restriction, formula, s)
    told = [letter for letter, _ in literals_told(restriction)]
    rows = []
    # A code leads back to its first part with s told letters free, so no more restrictions can have one.
    for letters in combinations(told, s):
        code = deep_code(told_too(restriction, [(letter, 2) for letter in letters]), formula, s)
        if code is not None and code[0] == restriction:
            rows.append(code[1])
    return tuple(sorted(rows))


def need_all_looked_at(n, formula, s):
    need_n(n)
    need_formula(n, formula)
    need_depth(s)
    need_work(power(3, n), len(formula))


def deep_numbers(n, formula, s):
    """The list of the numbers of deep restrictions with 0, 1, .., n free letters."""
    return [len(deep_ones(n, formula, free, s)) for free in range(n + 1)]


def deep_row_numbers(n, formula, s):
    """The numbers of deep restrictions with 0, 1, .., n free letters."""
    need_all_looked_at(n, formula, s)
    return tuple(deep_numbers(n, formula, s))


def share_polynomial(n, formula, s):
    """The coefficients of 2 ** n times the share of deep restrictions, if p is the share of free letters."""
    need_all_looked_at(n, formula, s)
    coefficients = [0] * (n + 1)
    for free, many in enumerate(deep_numbers(n, formula, s)):
        # The told letters bring the power of (1 - p), told out by the binomial rule.
        for told in range(n - free + 1):
            part = comb(n - free, told) * many << free
            coefficients[free + told] += -part if told & 1 else part
    return tuple(coefficients)


def good_or_codes(n, formula, free, s):
    """A restriction with so many free letters that is not deep, or the codes of all of them."""
    need_looked_at(n, formula, free, s)
    codes = []
    for restriction in restrictions_with(n, free):
        code = deep_code(restriction, formula, s)
        if code is None:
            return ("good", restriction)
        codes.append(code)
    return ("codes", tuple(codes))


def is_good_or_codes(n, formula, free, s, value):
    need_looked_at(n, formula, free, s)
    good = told_by("good", value)
    if is_restriction_of(n, good):
        return good.count(2) == free and row_for(good, formula, s) is None
    codes = told_by("codes", value)
    return is_tuple_of(codes, count_with(n, free)) and are_codes(n, formula, free, s, codes)


def are_codes(n, formula, free, s, codes):
    """Whether these are the codes of all restrictions with so many free letters."""
    for restriction, code in zip(restrictions_with(n, free), codes):
        if not has_code_form(n, code) or code != deep_code(restriction, formula, s):
            return False
    return True
