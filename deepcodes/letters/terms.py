"""Terms and formulas: their tables in both readings, their lefts, and papers on terms."""

from deepcodes.checks import (
    are_bits, is_formula_of, is_letter, is_term_of, need_any_restriction, need_formula, need_n, need_number, need_row,
    need_table, need_term, told_by
)
from deepcodes.letters.masks import (
    coformula_mask, first_row, formula_mask, mask_of, row_number, table_of_mask, term_mask, values_told
)


def is_term(n, value):
    need_n(n)
    return is_term_of(n, value)


def is_formula(n, value):
    need_n(n)
    return is_formula_of(n, value)


def greatest_width(formula):
    return max([len(term) for term in formula], default=0)


def width_of(n, formula):
    """The greatest number of literals of a term, 0 without terms."""
    need_n(n)
    need_formula(n, formula)
    return greatest_width(formula)


def does_keep(row, term):
    """Whether the input keeps all literals of the term."""
    return all([row[letter] == bit for letter, bit in term])


def formula_value(n, formula, row):
    """The value of a formula at an input."""
    need_n(n)
    need_formula(n, formula)
    need_row(n, row)
    return int(any([does_keep(row, term) for term in formula]))


def coformula_value(n, formula, row):
    """The value at an input of the formula read as a coformula."""
    need_n(n)
    need_formula(n, formula)
    need_row(n, row)
    return int(all([any([row[letter] == bit for letter, bit in clause]) for clause in formula]))


def formula_table(n, formula):
    need_n(n)
    need_formula(n, formula)
    return table_of_mask(n, formula_mask(n, formula))


def coformula_table(n, formula):
    """The table of the formula read as a coformula."""
    need_n(n)
    need_formula(n, formula)
    return table_of_mask(n, coformula_mask(n, formula))


def other_bits(literals):
    return tuple([(letter, 1 - bit) for letter, bit in literals])


def turned(n, formula):
    """The formula with the other bit in each literal."""
    need_n(n)
    need_formula(n, formula)
    return tuple([other_bits(term) for term in formula])


def open_part(restriction, term):
    """The left of a term, None if a told letter breaks it."""
    if any([restriction[letter] == 1 - bit for letter, bit in term]):
        return None
    return tuple([(letter, bit) for letter, bit in term if restriction[letter] == 2])


def left_of(restriction, term):
    """The literals of free letters of a term, None if it is false."""
    need_any_restriction(restriction)
    need_term(len(restriction), term)
    return open_part(restriction, term)


def lefts(restriction, formula):
    """The lefts of the terms that are not false."""
    need_any_restriction(restriction)
    need_formula(len(restriction), formula)
    parts = [open_part(restriction, term) for term in formula]
    return tuple([part for part in parts if part is not None])


def first_left(restriction, formula):
    """The pair of the index of the first term that is not false and of its left, or None."""
    need_any_restriction(restriction)
    need_formula(len(restriction), formula)
    for index, term in enumerate(formula):
        left = open_part(restriction, term)
        if left is not None:
            return (index, left)
    return None


def input_told(n, value):
    """The input of a judged pair ("input", row), None for every other value."""
    row = told_by("input", value)
    return row if are_bits(row, n) else None


def does_tell_one_of(n, mask, value):
    """Whether the value is a pair ("input", row) with an input of the mask."""
    row = input_told(n, value)
    return row is not None and (mask >> row_number(row) & 1) == 1


def has_all(term, literals):
    return all([literal in term for literal in literals])


def need_two_terms(n, term, other):
    need_n(n)
    need_term(n, term)
    need_term(n, other)


def within_answer(n, term, other):
    """That the term lies within the other one, or an input that keeps it and breaks the other one."""
    need_two_terms(n, term, other)
    if has_all(term, other):
        return ("within",)
    return ("input", first_row(n, term_mask(n, term) & ~term_mask(n, other)))


def is_within_answer(n, term, other, value):
    need_two_terms(n, term, other)
    if value == ("within",):
        return has_all(term, other)
    row = input_told(n, value)
    return row is not None and does_keep(row, term) and not does_keep(row, other)


def needless_letters(n, yes, term):
    """The letters of a term that can be left out, so that the rest is true at inputs of `yes` alone."""
    return [
        letter for letter, _ in term
        if not term_mask(n, [literal for literal in term if literal[0] != letter]) & ~yes
    ]


def need_prime(n, table, term):
    need_n(n)
    need_table(n, table)
    need_term(n, term)


def prime_answer(n, table, term):
    """That the term is prime for the table, or an input or a letter that shows that it is not."""
    need_prime(n, table, term)
    yes = mask_of(table)
    wrong = term_mask(n, term) & ~yes
    if wrong:
        return ("input", first_row(n, wrong))
    letters = needless_letters(n, yes, term)
    return ("letter", letters[0]) if letters else ("prime",)


def is_prime_answer(n, table, term, value):
    need_prime(n, table, term)
    yes = mask_of(table)
    row = input_told(n, value)
    if row is not None:
        return does_keep(row, term) and table[row_number(row)] == 0
    letter = told_by("letter", value)
    if is_letter(n, letter):
        return letter in needless_letters(n, yes, term)
    return value == ("prime",) and not term_mask(n, term) & ~yes and not needless_letters(n, yes, term)


def prime_terms(n, table):
    """The ascending tuple of all prime terms."""
    need_n(n)
    need_table(n, table)
    values = values_told(table)
    terms = [prime_at(n, values, number) for number, value in enumerate(values) if value == 1]
    return tuple(sorted([term for term in terms if term is not None]))


def prime_at(n, values, number):
    """The term of the told letters of the restriction with the number, None if it is not prime.

    `values` is for each restriction the value that all inputs have that fit, here 1.
    """
    literals = []
    weight = 1
    rest = number
    for letter in range(n):
        rest, bit = divmod(rest, 3)
        if bit != 2:
            # With this letter free the number is greater by what lacks to the member 2.
            if values[number + (2 - bit) * weight] == 1:
                return None
            literals.append((letter, bit))
        weight *= 3
    return tuple(literals)


def alone(n, formula, index):
    """The inputs that keep the term with the index and no other one."""
    others = formula[:index] + formula[index + 1:]
    return term_mask(n, formula[index]) & ~formula_mask(n, others)


def need_index(n, formula, index):
    need_n(n)
    need_formula(n, formula)
    need_number(index, 0, len(formula) - 1)


def needless_answer(n, formula, index):
    """That the term is needless, or an input that keeps it alone."""
    need_index(n, formula, index)
    mask = alone(n, formula, index)
    return ("input", first_row(n, mask)) if mask else ("needless",)


def is_needless_answer(n, formula, index, value):
    need_index(n, formula, index)
    mask = alone(n, formula, index)
    if value == ("needless",):
        return mask == 0
    return does_tell_one_of(n, mask, value)


def unlike_mask(n, one, other):
    """The inputs at which two formulas have unlike values."""
    need_n(n)
    need_formula(n, one)
    need_formula(n, other)
    return formula_mask(n, one) ^ formula_mask(n, other)


def alike_answer(n, one, other):
    """That two formulas have one table, or an input with unlike values."""
    mask = unlike_mask(n, one, other)
    return ("input", first_row(n, mask)) if mask else ("alike",)


def is_alike_answer(n, one, other, value):
    mask = unlike_mask(n, one, other)
    if value == ("alike",):
        return mask == 0
    return does_tell_one_of(n, mask, value)
