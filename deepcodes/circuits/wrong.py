"""Inputs at which low trees, formulas and circuits are wrong: unlike the sum, or unlike a table."""

from deepcodes.canon.canonical import need_both
from deepcodes.canon.codes import deep_code
from deepcodes.checks import (
    are_bits, has_code_form, is_just, is_tree_behind, is_tuple_of, letters_of, need_any_restriction, need_any_table,
    need_depth, need_table, need_tree, told_by
)
from deepcodes.circuits.circuits import need_circuit
from deepcodes.circuits.lines import circuit_mask, layers_mask
from deepcodes.circuits.lowered import need_walk, tree_left, walked
from deepcodes.errors import InvalidOperation, InvalidTree, Refused
from deepcodes.letters.masks import formula_mask, row_at, row_number, sum_mask
from deepcodes.told.restrictions import does_fit, fitting_numbers, letters_free, literals_told, told_too
from deepcodes.trees.growth import canonical_grown
from deepcodes.trees.least import is_plan_of, need_few_values
from deepcodes.trees.trees import depth_below, is_end, value_behind


def does_fit_input(restriction, value):
    """Whether the value is an input that fits."""
    return are_bits(value, len(restriction)) and does_fit(value, restriction)


def does_sum_to(row, bit):
    return (sum(row) & 1) == bit


def need_fitting_tree(restriction, tree):
    need_any_restriction(restriction)
    told = tuple([letter for letter, _ in literals_told(restriction)])
    # Told letters are asked no more, just as those asked above.
    if not is_tree_behind(len(restriction), tree, told):
        raise InvalidTree("this is no tree that asks free letters alone")


def wrong_end(restriction, tree):
    """An input that fits, at which the tree is wrong, if it is lower than there are free letters."""
    here = restriction
    while not is_end(tree):
        letter, low, _ = tree
        here = told_too(here, [(letter, 0)])
        tree = low
    # Some letter is not asked on this way, so it can make the sum unlike the end.
    letters = letters_free(here)
    row = told_too(here, [(letter, 0) for letter in letters])
    return told_too(row, [(letters[0], 1)]) if does_sum_to(row, tree) else row


def is_low(restriction, tree):
    return depth_below(tree) < len(letters_free(restriction))


def wrong_input(restriction, tree):
    """An input that fits, at which the tree is wrong."""
    need_fitting_tree(restriction, tree)
    if not is_low(restriction, tree):
        raise Refused(("deep",))
    return wrong_end(restriction, tree)


def is_wrong_input(restriction, tree, value):
    need_fitting_tree(restriction, tree)
    return does_fit_input(restriction, value) and not does_sum_to(value, value_behind(tree, value))


def wrong_number(restriction, tree, table):
    """At how many of the inputs that fit the tree has not the value of the table."""
    need_fitting_tree(restriction, tree)
    n = len(restriction)
    need_table(n, table)
    numbers = fitting_numbers(restriction)
    return len([number for number in numbers if value_behind(tree, row_at(n, number)) != table[number]])


def unlike_by(table, depth, plan, tree):
    """An input at which the tree has not the value of the table: the answers of the plan lead to it."""
    need_any_table(table)
    need_depth(depth)
    if not is_plan_of(table, depth, plan):
        raise InvalidOperation("this is no plan for the table and the depth")
    need_tree(letters_of(table), tree)
    if depth_below(tree) > depth:
        raise InvalidTree("this tree is too deep")
    need_few_values(table)
    here = (2,) * letters_of(table)
    while not is_end(tree):
        letter, low, high = tree
        answer = plan[here][letter]
        here = told_too(here, [(letter, answer)])
        tree = high if answer else low
    return row_at(len(here), [number for number in fitting_numbers(here) if table[number] != tree][0])


def is_unlike(table, tree, value):
    """Whether the value is an input at which the tree has not the value of the table."""
    need_any_table(table)
    n = letters_of(table)
    need_tree(n, tree)
    return are_bits(value, n) and value_behind(tree, value) != table[row_number(value)]


def formula_answer(restriction, formula):
    """An input that fits, at which the formula is wrong, if its canonical tree is low; else the code."""
    need_both(restriction, formula)
    code = deep_code(restriction, formula, len(letters_free(restriction)))
    if code is not None:
        return ("deep", code)
    return ("wrong", wrong_end(restriction, canonical_grown(restriction, formula)))


def is_formula_answer(restriction, formula, value):
    need_both(restriction, formula)
    n = len(restriction)
    code = deep_code(restriction, formula, len(letters_free(restriction)))
    if code is not None:
        told = told_by("deep", value)
        return has_code_form(n, told) and told == code
    row = told_by("wrong", value)
    if not does_fit_input(restriction, row):
        return False
    return not does_sum_to(row, formula_mask(n, formula) >> row_number(row) & 1)


def refuted(n, layers, free, depths):
    """The row of the walk, and an input that fits its last restriction, at which the layers are wrong."""
    need_walk(n, layers, free, depths)
    row, layers_left = walked(n, layers, free, depths)
    if len(row) < len(free):
        raise Refused(("charged", len(row)))
    tree = tree_left(row, layers_left)
    if not is_low(row[-1], tree):
        raise Refused(("deep",))
    return (row, wrong_end(row[-1], tree))


def is_refuted(n, layers, free, depths, value):
    need_walk(n, layers, free, depths)
    row, layers_left = walked(n, layers, free, depths)
    if len(row) < len(free) or not is_low(row[-1], tree_left(row, layers_left)):
        return False
    if not is_tuple_of(value, 2) or not is_just(value[0], row) or not does_fit_input(row[-1], value[1]):
        return False
    return not does_sum_to(value[1], layers_mask(n, layers) >> row_number(value[1]) & 1)


def wrong_of(n, circuit):
    """All inputs, by numbers, at which the circuit is wrong."""
    need_circuit(n, circuit)
    mask = circuit_mask(n, circuit) ^ sum_mask(n)
    return tuple([row_at(n, number) for number in range(1 << n) if mask >> number & 1])
