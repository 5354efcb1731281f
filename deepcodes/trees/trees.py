"""Trees: their ways, tables and formulas, trees under restrictions and behind one another."""

from deepcodes.checks import (
    is_literal, is_tree_of, need_depth, need_formula, need_n, need_restriction, need_row, need_tree, told_by
)
from deepcodes.errors import TooMany
from deepcodes.letters.masks import all_inputs, coformula_mask, first_row, formula_mask, literal_masks, table_of_mask
from deepcodes.letters.terms import does_tell_one_of, greatest_width, other_bits
from deepcodes.trees.growth import stopped_grown

MOST_WAYS = 64


def is_tree(n, value):
    need_n(n)
    return is_tree_of(n, value)


def is_end(tree):
    return isinstance(tree, int)


def depth_below(tree):
    if is_end(tree):
        return 0
    _, low, high = tree
    return 1 + max(depth_below(low), depth_below(high))


def depth_of(n, tree):
    """The greatest number of letters asked along a way."""
    need_n(n)
    need_tree(n, tree)
    return depth_below(tree)


def end_number(n, tree):
    """The number of ends."""
    need_n(n)
    need_tree(n, tree)
    return len(ways_behind(tree, ()))


def value_at(n, tree, row):
    """The value of a tree at an input."""
    need_n(n)
    need_tree(n, tree)
    need_row(n, row)
    return value_behind(tree, row)


def value_behind(tree, row):
    while not is_end(tree):
        letter, low, high = tree
        tree = high if row[letter] else low
    return tree


def tree_mask(n, tree):
    """The inputs at which the tree has the value 1."""
    return mask_behind(tree, literal_masks(n), all_inputs(n))


def mask_behind(tree, pairs, mask):
    """The inputs of a mask at which the tree has the value 1."""
    if is_end(tree):
        return mask if tree else 0
    letter, low, high = tree
    zeros, ones = pairs[letter]
    return mask_behind(low, pairs, mask & zeros) | mask_behind(high, pairs, mask & ones)


def table_of(n, tree):
    need_n(n)
    need_tree(n, tree)
    return table_of_mask(n, tree_mask(n, tree))


def ways_behind(tree, literals):
    """The list of the ways that begin with some literals and go on with the tree."""
    if is_end(tree):
        return [(literals, tree)]
    letter, low, high = tree
    return ways_behind(low, (*literals, (letter, 0))) + ways_behind(high, (*literals, (letter, 1)))


def ways(n, tree):
    """The pairs (literals, end), those behind `low` ahead."""
    need_n(n)
    need_tree(n, tree)
    return tuple(ways_behind(tree, ()))


def ways_to(tree, wanted):
    """The list of the literals of the ways with this end, each way's ascending."""
    return [tuple(sorted(literals)) for literals, end in ways_behind(tree, ()) if end == wanted]


def few_ways_to(tree, wanted):
    found = ways_to(tree, wanted)
    if len(found) > MOST_WAYS:
        raise TooMany(MOST_WAYS)
    return found


def formula_of(n, tree):
    """The formula of the ways with the end 1."""
    need_n(n)
    need_tree(n, tree)
    return tuple(few_ways_to(tree, 1))


def coformula_of(n, tree):
    """The coformula of the ways with the end 0."""
    need_n(n)
    need_tree(n, tree)
    return tuple([other_bits(literals) for literals in few_ways_to(tree, 0)])


def need_two_formulas(n, formula, coformula):
    need_n(n)
    need_formula(n, formula)
    need_formula(n, coformula)


def tree_or_input(n, formula, coformula):
    """A tree of the table of both that is low enough, or an input at which they are unlike."""
    need_two_formulas(n, formula, coformula)
    unlike = formula_mask(n, formula) ^ coformula_mask(n, coformula)
    if unlike:
        return ("input", first_row(n, unlike))
    return ("tree", stopped_grown(formula, coformula))


def is_tree_or_input(n, formula, coformula, value):
    need_two_formulas(n, formula, coformula)
    mask = formula_mask(n, formula)
    unlike = mask ^ coformula_mask(n, coformula)
    tree = told_by("tree", value)
    if not is_tree_of(n, tree):
        return does_tell_one_of(n, unlike, value)
    if unlike or tree_mask(n, tree) != mask:
        return False
    return depth_below(tree) <= greatest_width(formula) * greatest_width(coformula)


def tree_told(tree, restriction):
    """The tree that asks no told letter."""
    if is_end(tree):
        return tree
    letter, low, high = tree
    member = restriction[letter]
    if member == 2:
        return (letter, tree_told(low, restriction), tree_told(high, restriction))
    return tree_told(high if member else low, restriction)


def tree_under(n, tree, restriction):
    """The tree under a restriction; it keeps the letters' numbers."""
    need_n(n)
    need_tree(n, tree)
    need_restriction(n, restriction)
    return tree_told(tree, restriction)


def chosen(n, tree, low, high):
    """The tree with `low` behind each end 0 and `high` behind each end 1."""
    need_n(n)
    need_tree(n, tree)
    need_tree(n, low)
    need_tree(n, high)
    return chosen_behind(tree, (low, high), (2,) * n)


def chosen_behind(tree, sides, restriction):
    """The same where the letters that the restriction tells are asked already."""
    if is_end(tree):
        return tree_told(sides[tree], restriction)
    letter, low, high = tree
    ahead, rest = restriction[:letter], restriction[letter + 1:]
    return (letter, chosen_behind(low, sides, (*ahead, 0, *rest)), chosen_behind(high, sides, (*ahead, 1, *rest)))


def neat_behind(tree):
    if is_end(tree):
        return tree
    letter, low, high = tree
    low = neat_behind(low)
    high = neat_behind(high)
    return low if low == high else (letter, low, high)


def neat(n, tree):
    """The tree without needless questions, those farthest behind taken away first."""
    need_n(n)
    need_tree(n, tree)
    return neat_behind(tree)


def needless_way(tree, literals):
    """The literals ahead of some needless question of the tree, None if it is neat."""
    if is_end(tree):
        return None
    letter, low, high = tree
    if low == high:
        return literals
    way = needless_way(low, (*literals, (letter, 0)))
    if way is None:
        way = needless_way(high, (*literals, (letter, 1)))
    return way


def needless(n, tree):
    """The literals asked ahead of a needless question, None if the tree is neat."""
    need_n(n)
    need_tree(n, tree)
    return needless_way(tree, ())


def is_needless(n, tree, value):
    need_n(n)
    need_tree(n, tree)
    if value is None:
        return needless_way(tree, ()) is None
    if not isinstance(value, tuple) or not all([is_literal(n, literal) for literal in value]):
        return False
    for asked, answer in value:
        if is_end(tree) or tree[0] != asked:
            return False
        tree = tree[1 + answer]
    return not is_end(tree) and tree[1] == tree[2]


def tree_number(n, depth):
    """How many trees of n letters are at most so deep."""
    need_n(n)
    need_depth(depth)
    many = 2
    # A tree cannot be deeper than it has letters, so only the lesser of both counts.
    levels = min(n, depth)
    for letters in range(n - levels + 1, n + 1):
        many = 2 + letters * many * many
    return many
