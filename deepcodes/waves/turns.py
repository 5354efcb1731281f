"""Turns: single letters that change the value, and what few of them tell of widths and of the sum."""

from math import comb

from deepcodes.checks import (
    is_formula_of, letters_of, need_any_table, need_n, need_number, need_row, need_tree, told_by
)
from deepcodes.errors import TooMany
from deepcodes.letters.certified import terms_within, uncertified
from deepcodes.letters.masks import first_row, formula_mask, mask_of, row_at, row_number
from deepcodes.letters.rows import is_turn, table_of_sum
from deepcodes.letters.terms import does_tell_one_of, greatest_width
from deepcodes.powers import rounded_up
from deepcodes.trees.trees import ways_behind

MOST_VALUES = 64


def turns_at(table, row):
    """The letters of all turns at an input."""
    need_any_table(table)
    n = letters_of(table)
    need_row(n, row)
    return tuple([letter for letter in range(n) if is_turn(table, row_number(row), letter)])


def turns_with(table, letter):
    return len([number for number in range(len(table)) if is_turn(table, number, letter)])


def counted_turns(table):
    """The list of the numbers of turns that have each letter."""
    return [turns_with(table, letter) for letter in range(letters_of(table))]


def turn_counts(table):
    """For each letter how many turns have it."""
    need_any_table(table)
    return tuple(counted_turns(table))


def turn_number(table):
    """How many turns there are."""
    need_any_table(table)
    return sum(counted_turns(table))


def wrong_inputs(table):
    """The inputs at which the value is not that of the sum, by their numbers."""
    need_any_table(table)
    n = letters_of(table)
    odd = table_of_sum(n)
    return tuple([row_at(n, number) for number, value in enumerate(table) if value != odd[number]])


def border_number(table):
    """How many pairs of a wrong and a right input differ at one letter."""
    need_any_table(table)
    # Each such pair takes two from the pairs (input, letter) that are turns.
    return (letters_of(table) * len(table) - sum(counted_turns(table))) // 2


def least_wrong(n, width, yes):
    """How many inputs are wrong at least for so few turns as a formula of this width has."""
    need_number(n, 1, 10)
    need_number(width, 0, n)
    need_number(yes, 0, 1 << n)
    return max(0, rounded_up((n << n) - 2 * width * yes, 2 * n))


def way_sum(n, tree):
    """The lengths of the ways of all inputs, added."""
    need_n(n)
    need_tree(n, tree)
    return sum([len(literals) << (n - len(literals)) for literals, _ in ways_behind(tree, ())])


def turns_under(table, free):
    """How many turns the tables under all restrictions with so many free letters have together."""
    need_any_table(table)
    n = letters_of(table)
    need_number(free, 0, n)
    # Its letter and free - 1 of the others are free, and the others are told as the input of the turn has them.
    return sum(counted_turns(table)) * comb(n - 1, free - 1) if free > 0 else 0


def need_few_values(table, width):
    need_any_table(table)
    need_number(width, 0, 10)
    if len(table) > MOST_VALUES:
        raise TooMany(MOST_VALUES)


def width_answer(table, width):
    """A formula of at most this width, or an input with the value 1 that bars it."""
    need_few_values(table, width)
    n = letters_of(table)
    # Each term is the first one that is true at some input, so there are not more than values.
    terms, rest = terms_within(n, mask_of(table), width)
    return ("input", first_row(n, rest)) if rest else ("formula", tuple(terms))


def is_width_answer(table, width, value):
    need_few_values(table, width)
    n = letters_of(table)
    formula = told_by("formula", value)
    if is_formula_of(n, formula):
        return greatest_width(formula) <= width and formula_mask(n, formula) == mask_of(table)
    return does_tell_one_of(n, uncertified(n, mask_of(table), width), value)
