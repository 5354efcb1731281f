"""The forms of values, and the errors of arguments that have not theirs.

What begins with is_ judges a form and takes every value; what begins with need_ raises the
error that the document names for an argument of another form.
"""

from deepcodes.errors import (
    InvalidCode, InvalidFormula, InvalidInput, InvalidNumber, InvalidRestriction, InvalidTable, InvalidTree, TooMany
)

MOST_LETTERS = 10
MOST_TERMS = 64
MOST_TRIPLES = 10
MOST_WORK = 60000


def is_integer(value):
    # True and False are of the class int, but are no integers of the document.
    return isinstance(value, int) and not isinstance(value, bool)


def is_number(value, least, most):
    return is_integer(value) and least <= value <= most


def is_bit(value):
    return is_number(value, 0, 1)


def is_letter(n, value):
    return is_number(value, 0, n - 1)


def is_tuple_of(value, size):
    return isinstance(value, tuple) and len(value) == size


def are_bits(value, size):
    return is_tuple_of(value, size) and all([is_bit(bit) for bit in value])


def are_letters(n, value):
    """Whether the value is an ascending tuple of letters."""
    if not isinstance(value, tuple) or not all([is_letter(n, letter) for letter in value]):
        return False
    return is_ascending(value)


def is_ascending(numbers):
    return all([numbers[at] < numbers[at + 1] for at in range(len(numbers) - 1)])


def is_table_of(n, value):
    return are_bits(value, 1 << n)


def is_any_table(value):
    """Whether the value is a table of 0 to 10 letters."""
    if not isinstance(value, tuple) or not value or len(value) > 1 << MOST_LETTERS:
        return False
    return is_table_of(letters_of(value), value)


def letters_of(table):
    """The number of letters of a table."""
    return len(table).bit_length() - 1


def is_literal(n, value):
    return is_tuple_of(value, 2) and is_letter(n, value[0]) and is_bit(value[1])


def is_term_of(n, value):
    if not isinstance(value, tuple) or not all([is_literal(n, literal) for literal in value]):
        return False
    # Without a letter twice literals ascend just if their letters do.
    return is_ascending([letter for letter, _ in value])


def is_formula_of(n, value):
    if not isinstance(value, tuple) or len(value) > MOST_TERMS:
        return False
    return all([is_term_of(n, term) for term in value])


def is_restriction_of(n, value):
    return is_tuple_of(value, n) and all([is_number(member, 0, 2) for member in value])


def is_any_restriction(value):
    """Whether the value is a restriction of 0 to 10 letters."""
    return isinstance(value, tuple) and len(value) <= MOST_LETTERS and is_restriction_of(len(value), value)


def is_tree_of(n, value):
    return is_tree_behind(n, value, ())


def is_tree_behind(n, value, asked):
    """Whether the value is a tree of n letters that asks none of those asked above it."""
    if is_bit(value):
        return True
    if not is_tuple_of(value, 3):
        return False
    letter, low, high = value
    if not is_letter(n, letter) or letter in asked:
        return False
    return all([is_tree_behind(n, side, (*asked, letter)) for side in (low, high)])


def is_triple(value):
    """Whether the value is a triple (place, answer, end) of a code."""
    return is_tuple_of(value, 3) and is_number(value[0], 0, 9) and is_bit(value[1]) and is_bit(value[2])


def has_code_form(n, value):
    """Whether the value is a pair of a restriction of n letters and of at most ten triples."""
    if not is_tuple_of(value, 2) or not is_restriction_of(n, value[0]):
        return False
    triples = value[1]
    if not isinstance(triples, tuple) or len(triples) > MOST_TRIPLES:
        return False
    return all([is_triple(triple) for triple in triples])


def is_just(value, wanted):
    """Whether the value is the wanted one, which is built of tuples, integers and strings: True is not 1."""
    if isinstance(wanted, tuple):
        return is_tuple_of(value, len(wanted)) and all([is_just(part, one) for part, one in zip(value, wanted)])
    return value == wanted if isinstance(wanted, str) else is_number(value, wanted, wanted)


def told_by(word, value):
    """What a judged pair (word, told) tells, None for every other value."""
    if is_tuple_of(value, 2) and value[0] == word:
        return value[1]
    return None


def need_number(value, least, most):
    if not is_number(value, least, most):
        raise InvalidNumber(value)


def need_n(n):
    need_number(n, 0, MOST_LETTERS)


def need_letter(n, letter):
    need_number(letter, 0, n - 1)


def need_bit(bit):
    need_number(bit, 0, 1)


def need_depth(depth):
    """The check of the parameters `depth` and `s`."""
    need_number(depth, 0, 10)


def need_row(n, row):
    if not are_bits(row, n):
        raise InvalidInput("this is no input of the letters")


def need_any_table(table):
    if not is_any_table(table):
        raise InvalidTable("this is no table of 0 to 10 letters")


def need_table(n, table):
    if not is_table_of(n, table):
        raise InvalidTable("this is no table of the letters")


def need_term(n, term):
    if not is_term_of(n, term):
        raise InvalidFormula("this is no term of the letters")


def need_formula(n, formula):
    if not is_formula_of(n, formula):
        raise InvalidFormula("this is no formula of the letters")


def need_any_restriction(restriction):
    if not is_any_restriction(restriction):
        raise InvalidRestriction("this is no restriction of 0 to 10 letters")


def need_restriction(n, restriction):
    if not is_restriction_of(n, restriction):
        raise InvalidRestriction("this is no restriction of the letters")


def need_tree(n, tree):
    if not is_tree_of(n, tree):
        raise InvalidTree("this is no tree of the letters")


def need_code(n, code):
    if not has_code_form(n, code):
        raise InvalidCode("this has not the form of a code")


def need_work(many, terms):
    """The work limit: so many restrictions are looked at, each with so many terms."""
    if many * max(1, terms) > MOST_WORK:
        raise TooMany(MOST_WORK)
