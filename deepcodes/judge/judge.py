"""Claims, their opposites, and the papers that show them.

The checker only looks up, counts and compares: it needs nothing of the package that finds answers.
"""

from deepcodes.errors import InvalidClaim
from deepcodes.judge.canon import depth_of, is_along, is_low_tree, told_too
from deepcodes.judge.forms import (
    are_layers, are_terms, is_any_restriction, is_bit, is_circuit, is_formula, is_number, is_restriction, is_row,
    is_small_table, is_tree, is_tuple_of, letters_of
)
from deepcodes.judge.values import (
    are_both_there, circuit_mask, coformula_mask, formula_mask, has_certificate, letter_masks, row_number, sum_mask,
    table_mask, tree_mask
)
from deepcodes.judge.walks import all_behind, does_bar, does_lead

MOST_WORK = 60000
MOST_CLAUSES = 1024
OPPOSITES = {
    "low": "deep", "deep": "low", "some": "none", "none": "some", "asked": "open", "open": "asked",
    "narrow": "wide", "wide": "narrow", "led": "stuck", "stuck": "led", "sums": "errs", "errs": "sums"
}


def is_canon_claim(value):
    """Whether the value is a claim on one canonical tree."""
    if not is_tuple_of(value, 4) or not is_any_restriction(value[1]):
        return False
    return is_formula(len(value[1]), value[2]) and is_number(value[3], 0, 10)


def is_count_claim(value):
    """Whether the value is a claim on all restrictions with so many free letters."""
    if not is_tuple_of(value, 5):
        return False
    _, n, formula, free, s = value
    if not is_number(n, 0, 10) or not is_formula(n, formula) or not is_number(free, 0, n) or not is_number(s, 0, 10):
        return False
    return how_many(n, free) * max(1, len(formula)) <= MOST_WORK


def how_many(n, free):
    """How many restrictions have so many free letters."""
    many = 1 << (n - free)
    for letter in range(free):
        # So many ways to take one letter more, each lot as often as it has letters: the quotient is whole.
        many = many * (n - letter) // (letter + 1)
    return many


def is_table_claim(value):
    """Whether the value is a claim on the trees of a table."""
    return is_tuple_of(value, 3) and is_small_table(value[1]) and is_number(value[2], 0, 10)


def is_width_claim(value):
    """Whether the value is a claim on the formulas, or coformulas, of a table."""
    if not is_tuple_of(value, 4) or not is_small_table(value[1]):
        return False
    return is_bit(value[2]) and is_number(value[3], 0, 10)


def is_walk_claim(value):
    """Whether the value is a claim on layers that are led down."""
    if not is_tuple_of(value, 5) or not is_number(value[1], 0, 6) or not are_layers(value[1], value[2]):
        return False
    _, n, layers, free, depths = value
    rounds = 1 + len(layers[2])
    if not is_tuple_of(free, rounds) or not all([is_number(many, 0, n) for many in free]):
        return False
    if any([many < later for many, later in zip(free, free[1:])]):
        return False
    return is_tuple_of(depths, rounds) and all([is_number(depth, 1, 10) for depth in depths])


def is_sum_claim(value):
    """Whether the value is a claim on a circuit and the sum."""
    return is_tuple_of(value, 3) and is_number(value[1], 0, 10) and is_circuit(value[1], value[2])


FORMS = {
    "low": is_canon_claim, "deep": is_canon_claim, "some": is_count_claim, "none": is_count_claim,
    "asked": is_table_claim, "open": is_table_claim, "narrow": is_width_claim, "wide": is_width_claim,
    "led": is_walk_claim, "stuck": is_walk_claim, "sums": is_sum_claim, "errs": is_sum_claim
}


def is_claim(value):
    if not isinstance(value, tuple) or not value or not isinstance(value[0], str) or value[0] not in FORMS:
        return False
    has_form = FORMS[value[0]]
    return has_form(value)


def need_claim(claim):
    if not is_claim(claim):
        raise InvalidClaim("this is no claim")


def opposite(claim):
    """The opposite claim."""
    need_claim(claim)
    return (OPPOSITES[claim[0]], *claim[1:])


def is_low(claim, paper):
    _, restriction, formula, s = claim
    return is_low_tree(restriction, formula, s, paper)


def is_deep(claim, paper):
    _, restriction, formula, s = claim
    return is_along(restriction, formula, s, paper)


def is_some(claim, paper):
    """Whether the paper is a restriction with so many free letters, and its canonical tree, a low one."""
    _, n, formula, free, s = claim
    if not is_tuple_of(paper, 2) or not is_restriction(n, paper[0]) or paper[0].count(2) != free:
        return False
    return is_low_tree(paper[0], formula, s, paper[1])


def is_none(claim, paper):
    """Whether the paper has a code for each restriction."""
    _, n, formula, free, s = claim
    if not is_tuple_of(paper, how_many(n, free)):
        return False
    return all([is_along(one, formula, s, code) for one, code in zip(all_behind((2,) * n, free), paper)])


def is_asked(claim, paper):
    """Whether the paper is a tree that is low enough and has the table."""
    _, table, depth = claim
    n = letters_of(table)
    return is_tree(n, paper) and depth_of(paper) <= depth and tree_mask(n, paper) == table_mask(table)


def is_open(claim, paper):
    """Whether the paper is a plan for the table and the depth."""
    _, table, depth = claim
    n = letters_of(table)
    if depth > n or not isinstance(paper, dict) or not all([is_restriction(n, key) for key in paper]):
        return False
    pairs = letter_masks(n)
    mask = table_mask(table)
    return (2,) * n in paper and all([is_plan_row(paper, key, depth, mask, pairs) for key in paper])


def is_plan_row(plan, key, depth, mask, pairs):
    """Whether the row of a key leads on to keys; where all letters that may be asked are told, both values can be."""
    row = plan[key]
    told = len(key) - key.count(2)
    if told >= depth:
        return told == depth and is_tuple_of(row, 0) and are_both_there(mask, pairs, key)
    if not is_tuple_of(row, len(key)):
        return False
    return all([is_plan_member(plan, key, letter, row[letter]) for letter in range(len(key))])


def is_plan_member(plan, key, letter, member):
    if key[letter] != 2:
        return is_number(member, 2, 2)
    return is_bit(member) and told_too(key, [(letter, member)]) in plan


def is_narrow(claim, paper):
    """Whether the paper is a long formula, or coformula, that is narrow enough and has the table."""
    _, table, bit, width = claim
    n = letters_of(table)
    if not are_terms(n, MOST_CLAUSES, paper) or any([len(term) > width for term in paper]):
        return False
    return (formula_mask(n, paper) if bit else coformula_mask(n, paper)) == table_mask(table)


def is_wide(claim, paper):
    """Whether the paper is an input with the value that has no certificate of at most so many letters."""
    _, table, bit, width = claim
    if not is_row(letters_of(table), paper) or table[row_number(paper)] != bit:
        return False
    return not has_certificate(table, paper, width)


def is_led(claim, paper):
    """Whether the paper leads the layers down to a tree."""
    _, n, layers, free, depths = claim
    return does_lead(n, layers, free, depths, paper)


def is_stuck(claim, paper):
    """Whether the paper leads the layers to a round in which every restriction is charged."""
    _, n, layers, free, depths = claim
    return does_bar(n, layers, free, depths, paper)


def is_sum(claim, paper):
    """Whether the paper is (), and the circuit tells the sum at all inputs."""
    _, n, circuit = claim
    return is_tuple_of(paper, 0) and circuit_mask(n, circuit) == sum_mask(n)


def is_wrong(claim, paper):
    """Whether the paper is an input at which the circuit does not tell the sum."""
    _, n, circuit = claim
    return is_row(n, paper) and ((circuit_mask(n, circuit) ^ sum_mask(n)) >> row_number(paper) & 1) == 1


CHECKS = {
    "low": is_low, "deep": is_deep, "some": is_some, "none": is_none, "asked": is_asked, "open": is_open,
    "narrow": is_narrow, "wide": is_wide, "led": is_led, "stuck": is_stuck, "sums": is_sum, "errs": is_wrong
}


def takes(claim, paper):
    """Whether the paper shows the claim."""
    need_claim(claim)
    does_show = CHECKS[claim[0]]
    return does_show(claim, paper)
