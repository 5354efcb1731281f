"""Least trees: least depths, the plans that bar lower trees, and certificates."""

from itertools import combinations

from deepcodes.checks import (
    are_letters, is_bit, is_number, is_restriction_of, is_tree_of, is_tuple_of, letters_of, need_any_table,
    need_depth, need_row, told_by
)
from deepcodes.errors import TooMany
from deepcodes.letters.masks import mask_of, row_at, values_told
from deepcodes.told.restrictions import fitting_numbers, restriction_at, restriction_number, told_too
from deepcodes.trees.trees import depth_below, tree_mask

MOST_VALUES = 256


def need_few_values(table):
    if len(table) > MOST_VALUES:
        raise TooMany(MOST_VALUES)


def need_table_and_depth(table, depth):
    need_any_table(table)
    need_depth(depth)
    need_few_values(table)


def need_table_and_row(table, row):
    need_any_table(table)
    need_row(letters_of(table), row)
    need_few_values(table)


def weights_of(n):
    """3 to the power of each letter: a member less by 1 there makes a number less by so much."""
    weights = []
    weight = 1
    for _ in range(n):
        weights.append(weight)
        weight *= 3
    return weights


def told_pairs(number, weights):
    """For each free letter of a restriction: the letter, and the numbers of those with it told 0, told 1."""
    return [
        (letter, number - 2 * weight, number - weight)
        for letter, weight in enumerate(weights) if number // weight % 3 == 2
    ]


def least_depths(table):
    """For each restriction, by numbers, the least depth of the table under it."""
    weights = weights_of(letters_of(table))
    depths = []
    for number, value in enumerate(values_told(table)):
        if value == 2:
            # Those with a letter more told have lesser numbers, so their depths are there.
            pairs = told_pairs(number, weights)
            depths.append(1 + min([max(depths[low], depths[high]) for _, low, high in pairs]))
        else:
            depths.append(0)
    return depths


def least_depth(table):
    """The least depth of a tree that has the table."""
    need_any_table(table)
    need_few_values(table)
    return least_depths(table)[-1]


def least_tree(n, values, depths, number):
    """A least deep tree of the table under the restriction with the number."""
    if values[number] != 2:
        return values[number]
    # The least depth comes of some letter both sides of which are less deep.
    best = [
        pair for pair in told_pairs(number, weights_of(n)) if max(depths[pair[1]], depths[pair[2]]) < depths[number]
    ]
    letter, low, high = best[0]
    return (letter, least_tree(n, values, depths, low), least_tree(n, values, depths, high))


def answers_of(depths, number, weights):
    """The row of a plan: for each free letter the bit that leaves the greater least depth."""
    row = [2 for _ in weights]
    for letter, low, high in told_pairs(number, weights):
        row[letter] = 0 if depths[low] >= depths[high] else 1
    return tuple(row)


def plan_of(n, depths, depth):
    """A plan for a depth less than the least one, its keys ascending by numbers."""
    weights = weights_of(n)
    last = len(depths) - 1
    rows = {}
    reached = {last: 0}
    # The numbers fall as letters are told, so each one is reached before it is looked at.
    for number in range(last, -1, -1):
        if number in reached:
            told = reached[number]
            rows[number] = answers_of(depths, number, weights) if told < depth else ()
            for bit, weight in zip(rows[number], weights):
                if bit != 2:
                    reached[number - (2 - bit) * weight] = told + 1
    return {restriction_at(n, number): rows[number] for number in sorted(rows)}


def least_answer(table, depth):
    """A tree that has the table and is low enough, or a plan."""
    need_table_and_depth(table, depth)
    n = letters_of(table)
    depths = least_depths(table)
    if depths[-1] > depth:
        return ("plan", plan_of(n, depths, depth))
    return ("tree", least_tree(n, values_told(table), depths, len(depths) - 1))


def is_least_answer(table, depth, value):
    need_table_and_depth(table, depth)
    tree = told_by("tree", value)
    if is_tree_of(letters_of(table), tree):
        return depth_below(tree) <= depth and tree_mask(letters_of(table), tree) == mask_of(table)
    return is_plan_of(table, depth, told_by("plan", value))


def is_plan(table, depth, value):
    need_table_and_depth(table, depth)
    return is_plan_of(table, depth, value)


def is_plan_of(table, depth, value):
    n = letters_of(table)
    # Beyond n nothing would be left to show at the restrictions with all letters told.
    if depth > n or not isinstance(value, dict) or (2,) * n not in value:
        return False
    values = values_told(table)
    return all([is_plan_row(n, values, depth, value, key) for key in value])


def is_plan_row(n, values, depth, plan, key):
    """Whether a key of a plan is right, and its row."""
    if not is_restriction_of(n, key):
        return False
    row = plan[key]
    told = n - key.count(2)
    if told >= depth:
        return told == depth and row == () and values[restriction_number(key)] == 2
    return is_tuple_of(row, n) and all([is_plan_member(plan, key, letter, row[letter]) for letter in range(n)])


def is_plan_member(plan, key, letter, member):
    """Whether a member of a row is 2 for a told letter, for a free one a bit that leads to a key."""
    if key[letter] != 2:
        return is_number(member, 2, 2)
    return is_bit(member) and told_too(key, [(letter, member)]) in plan


def certificate(table, row):
    """The first certificate at an input."""
    need_table_and_row(table, row)
    return first_certificate(values_told(table), row)


def first_certificate(values, row):
    """The shortest letters, of equally long ones the first, whose bits tell the value."""
    n = len(row)
    # What each letter takes from the number of the restriction with all letters free.
    steps = [(2 - bit) * weight for bit, weight in zip(row, weights_of(n))]
    for size in range(n + 1):
        for letters in combinations(range(n), size):
            if values[-1 - sum([steps[letter] for letter in letters])] != 2:
                return letters
    return None


def is_certificate(table, row, value):
    need_table_and_row(table, row)
    n = letters_of(table)
    if not are_letters(n, value):
        return False
    told = told_too((2,) * n, [(letter, row[letter]) for letter in value])
    return values_told(table)[restriction_number(told)] != 2


def certificate_sizes(table):
    """The greatest lengths of first certificates at inputs with the value 0, with the value 1."""
    need_any_table(table)
    need_few_values(table)
    n = letters_of(table)
    values = values_told(table)
    sizes = [0, 0]
    for number, value in enumerate(table):
        sizes[value] = max(sizes[value], len(first_certificate(values, row_at(n, number))))
    return tuple(sizes)


def told_tree(table):
    """The tree that asks first certificates of inputs with the value 1 as long as some fit."""
    need_any_table(table)
    need_few_values(table)
    n = letters_of(table)
    return told_tree_under(table, values_told(table), (2,) * n)


def told_tree_under(table, values, restriction):
    """The told tree under a restriction."""
    value = values[restriction_number(restriction)]
    if value != 2:
        return value
    yes = [number for number in fitting_numbers(restriction) if table[number] == 1]
    letters = first_certificate(values, row_at(len(restriction), yes[0]))
    free = [letter for letter in letters if restriction[letter] == 2]
    return told_tree_asking(table, values, restriction, free)


def told_tree_asking(table, values, restriction, letters):
    """The tree that asks these free letters, and then goes on as the told tree."""
    if not letters:
        return told_tree_under(table, values, restriction)
    letter, *rest = letters
    low = told_tree_asking(table, values, told_too(restriction, [(letter, 0)]), rest)
    high = told_tree_asking(table, values, told_too(restriction, [(letter, 1)]), rest)
    return (letter, low, high)
