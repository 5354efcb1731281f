"""The forms of values that claims and papers are built of. Every value can be asked."""


def is_integer(value):
    # True and False are of the class int, but are no integers of the document.
    return isinstance(value, int) and not isinstance(value, bool)


def is_number(value, least, most):
    return is_integer(value) and least <= value <= most


def is_bit(value):
    return is_number(value, 0, 1)


def is_tuple_of(value, size):
    return isinstance(value, tuple) and len(value) == size


def is_tuple_from(value, least, most):
    """Whether the value is a tuple of at least and at most so many members."""
    return isinstance(value, tuple) and least <= len(value) <= most


def is_just(value, wanted):
    """Whether the value is the wanted one, which is built of tuples and integers: True is not 1."""
    if isinstance(wanted, tuple):
        return is_tuple_of(value, len(wanted)) and all([is_just(part, one) for part, one in zip(value, wanted)])
    return is_number(value, wanted, wanted)


def are_ascending(numbers):
    return all([one < other for one, other in zip(numbers, numbers[1:])])


def is_row(n, value):
    """Whether the value is an input of n letters."""
    return is_tuple_of(value, n) and all([is_bit(bit) for bit in value])


def is_small_table(value):
    """Whether the value is a table of up to 256 values."""
    if not is_tuple_from(value, 1, 256):
        return False
    return is_row(1 << letters_of(value), value)


def letters_of(table):
    return len(table).bit_length() - 1


def is_literal(n, value):
    return is_tuple_of(value, 2) and is_number(value[0], 0, n - 1) and is_bit(value[1])


def is_term(n, value):
    if not isinstance(value, tuple) or not all([is_literal(n, literal) for literal in value]):
        return False
    return are_ascending([letter for letter, _ in value])


def are_terms(n, most, value):
    """Whether the value is a tuple of at most so many terms."""
    return is_tuple_from(value, 0, most) and all([is_term(n, term) for term in value])


def is_formula(n, value):
    return are_terms(n, 64, value)


def is_restriction(n, value):
    return is_tuple_of(value, n) and all([is_number(member, 0, 2) for member in value])


def is_any_restriction(value):
    return is_tuple_from(value, 0, 10) and is_restriction(len(value), value)


def is_tree(n, value, asked=()):
    """Whether the value is a tree of n letters that asks none of those asked above it."""
    if is_bit(value):
        return True
    if not is_tuple_of(value, 3) or not is_number(value[0], 0, n - 1) or value[0] in asked:
        return False
    letter, low, high = value
    return is_tree(n, low, (*asked, letter)) and is_tree(n, high, (*asked, letter))


def is_lot(many, value):
    """Whether the value is an ascending tuple of at most 64 indices of so many that there are."""
    if not is_tuple_from(value, 0, 64) or not all([is_number(at, 0, many - 1) for at in value]):
        return False
    return are_ascending(value)


def is_line(n, elder, value):
    """Whether the value is a line of a circuit behind so many elder ones."""
    if is_tuple_of(value, 3):
        return value[0] == "letter" and is_literal(n, value[1:])
    return is_tuple_of(value, 2) and value[0] in ("and", "or") and is_lot(elder, value[1])


def is_circuit(n, value):
    return is_tuple_from(value, 1, 120) and all([is_line(n, at, line) for at, line in enumerate(value)])


def are_layers(n, value):
    if not is_tuple_of(value, 3) or value[0] not in ("ands", "ors"):
        return False
    _, formulas, upper = value
    if not is_tuple_from(formulas, 1, 60) or not all([is_formula(n, formula) for formula in formulas]):
        return False
    if not is_tuple_from(upper, 0, 6):
        return False
    many = len(formulas)
    for layer in upper:
        if not is_tuple_from(layer, 1, 60) or not all([is_lot(many, lot) for lot in layer]):
            return False
        many = len(layer)
    return many == 1
