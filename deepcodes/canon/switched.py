"""Formulas read and told the other way: long coformulas, widths of tables, and four grades."""

from deepcodes.canon.canonical import need_both, need_deep
from deepcodes.canon.codes import deep_code, need_looked_at
from deepcodes.checks import (
    has_code_form, is_term_of, is_tuple_of, letters_of, need_any_table, need_bit, need_number, told_by
)
from deepcodes.letters.certified import terms_within, uncertified, width_needed
from deepcodes.letters.masks import (
    all_inputs, coformula_mask, first_row, formula_mask, mask_of, table_of_mask, term_mask
)
from deepcodes.letters.terms import does_tell_one_of, greatest_width, other_bits
from deepcodes.told.restrictions import literals_told, restrictions_with, values_under
from deepcodes.trees.growth import canonical_grown
from deepcodes.trees.least import least_depths
from deepcodes.trees.trees import depth_below, ways_to

MOST_CLAUSES = 1024


def is_long(n, value):
    """Whether the value is a long formula, or read the other way a long coformula."""
    if not isinstance(value, tuple) or len(value) > MOST_CLAUSES:
        return False
    return all([is_term_of(n, term) for term in value])


def clause_left(restriction, clause):
    """The literals of a clause that are left, None if a told letter keeps it."""
    if any([restriction[letter] == bit for letter, bit in clause]):
        return None
    return tuple([(letter, bit) for letter, bit in clause if restriction[letter] == 2])


def colefts(restriction, formula):
    """What is left of the clauses that no told letter keeps."""
    need_both(restriction, formula)
    parts = [clause_left(restriction, clause) for clause in formula]
    return tuple([part for part in parts if part is not None])


def switched(restriction, formula, s):
    """A long coformula and a long formula of lesser widths than s, if the canonical tree is low; else the code."""
    need_deep(restriction, formula, s)
    code = deep_code(restriction, formula, s)
    if code is not None:
        return ("code", code)
    tree = canonical_grown(restriction, formula)
    return ("both", tuple([other_bits(literals) for literals in ways_to(tree, 0)]), tuple(ways_to(tree, 1)))


def is_switched(restriction, formula, s, value):
    need_deep(restriction, formula, s)
    if is_tuple_of(value, 3) and value[0] == "both":
        return are_alike_there(restriction, formula, s, value[1], value[2])
    code = told_by("code", value)
    return has_code_form(len(restriction), code) and code == deep_code(restriction, formula, s)


def are_alike_there(restriction, formula, s, clauses, terms):
    """Whether these have widths below s, free letters alone, and the formula's values at the inputs that fit."""
    n = len(restriction)
    if not all([is_long(n, some) and is_below(restriction, s, some) for some in (clauses, terms)]):
        return False
    there = term_mask(n, literals_told(restriction))
    wanted = formula_mask(n, formula) & there
    return coformula_mask(n, clauses) & there == wanted and formula_mask(n, terms) & there == wanted


def is_below(restriction, s, terms):
    """Whether the width of the terms is below s, and all their letters are free."""
    if greatest_width(terms) >= s:
        return False
    return all([restriction[letter] == 2 for term in terms for letter, _ in term])


def need_width(table, width, bit):
    need_any_table(table)
    need_number(width, 0, 10)
    need_bit(bit)


def inputs_with(table, bit):
    """The mask of the inputs with this value."""
    mask = mask_of(table)
    return mask if bit else mask ^ all_inputs(letters_of(table))


def width_answer(table, width, bit):
    """A long formula (for the bit 1) or coformula of at most this width, or an input that bars it."""
    need_width(table, width, bit)
    n = letters_of(table)
    terms, rest = terms_within(n, inputs_with(table, bit), width)
    if rest:
        return ("input", first_row(n, rest))
    # A clause is broken just where the term with the other bits is true.
    return ("terms", tuple(terms) if bit else tuple([other_bits(term) for term in terms]))


def is_width_answer(table, width, bit, value):
    need_width(table, width, bit)
    n = letters_of(table)
    terms = told_by("terms", value)
    if not is_long(n, terms):
        return does_tell_one_of(n, uncertified(n, inputs_with(table, bit), width), value)
    mask = formula_mask(n, terms) if bit else coformula_mask(n, terms)
    return greatest_width(terms) <= width and mask == mask_of(table)


def both_widths(table):
    return tuple([width_needed(letters_of(table), inputs_with(table, bit)) for bit in (1, 0)])


def least_widths(table):
    """The least widths of a long formula and of a long coformula that have the table."""
    need_any_table(table)
    return both_widths(table)


def grades(restriction, formula):
    """The least widths of a formula and of a coformula, the least depth, and that of the canonical tree."""
    need_both(restriction, formula)
    n = len(restriction)
    table = values_under(table_of_mask(n, formula_mask(n, formula)), restriction)
    terms_width, clauses_width = both_widths(table)
    return (terms_width, clauses_width, least_depths(table)[-1], depth_below(canonical_grown(restriction, formula)))


def stiff_number(n, formula, free, s):
    """Under how many restrictions the formula is no long coformula of a width below s."""
    need_looked_at(n, formula, free, s)
    table = table_of_mask(n, formula_mask(n, formula))
    return len([r for r in restrictions_with(n, free) if s == 0 or is_stiff(free, values_under(table, r), s)])


def is_stiff(n, table, s):
    return uncertified(n, inputs_with(table, 0), s - 1) != 0
