"""Canonical trees looked up along values that should be them, and codes along beginnings of their ways."""

from deepcodes.judge.forms import is_bit, is_just, is_tuple_of


def told_too(restriction, literals):
    members = list(restriction)
    for letter, bit in literals:
        members[letter] = bit
    return tuple(members)


def first_open(here, formula):
    """The pair of the first term that is not false and of its literals of free letters, None without one."""
    for term in formula:
        if all([here[letter] in (2, bit) for letter, bit in term]):
            return term, [literal for literal in term if here[literal[0]] == 2]
    return None


def is_canonical(here, formula, value):
    """Whether the value is the canonical tree."""
    found = first_open(here, formula)
    if found is None:
        return is_just(value, 0)
    letters = [letter for letter, _ in found[1]]
    return is_asking(here, formula, letters, value) if letters else is_just(value, 1)


def is_asking(here, formula, letters, value):
    """Whether the value asks these letters, and then goes on as the canonical tree."""
    if not letters:
        return is_canonical(here, formula, value)
    letter, *rest = letters
    if not is_tuple_of(value, 3) or not is_just(value[0], letter):
        return False
    return all([is_asking(told_too(here, [(letter, bit)]), formula, rest, value[1 + bit]) for bit in (0, 1)])


def depth_of(tree):
    if isinstance(tree, int):
        return 0
    _, low, high = tree
    return 1 + max(depth_of(low), depth_of(high))


def is_low_tree(here, formula, s, value):
    """Whether the value is the canonical tree, and less than s deep."""
    return is_canonical(here, formula, value) and depth_of(value) < s


def canonical_below(here, formula):
    """The canonical tree."""
    found = first_open(here, formula)
    if found is None:
        return 0
    letters = [letter for letter, _ in found[1]]
    return asked_below(here, formula, letters) if letters else 1


def asked_below(here, formula, letters):
    if not letters:
        return canonical_below(here, formula)
    letter, *rest = letters
    low, high = [asked_below(told_too(here, [(letter, bit)]), formula, rest) for bit in (0, 1)]
    return (letter, low, high)


def is_along(restriction, formula, s, value):
    """Whether the value is the code along some first s literals of a way under the restriction."""
    if not is_tuple_of(value, 2) or not is_tuple_of(value[1], s):
        return False
    first, triples = value
    here = asked = restriction
    at = 0
    while at < s:
        found = first_open(here, formula)
        if found is None or not found[1]:
            return False
        term, left = found
        # The last piece may be cut.
        left = left[:s - at]
        part = triples[at:at + len(left)]
        if not are_marks(term, left, part):
            return False
        here = told_too(here, [(letter, triple[1]) for (letter, _), triple in zip(left, part)])
        asked = told_too(asked, left)
        at += len(left)
    return is_just(first, asked)


def are_marks(term, left, triples):
    """Whether each triple has the place of its literal in the term, any answer, and an end at the last one alone."""
    for literal, triple in zip(left, triples):
        if not is_tuple_of(triple, 3) or not is_bit(triple[1]):
            return False
        if not is_just((triple[0], triple[2]), (term.index(literal), int(literal == left[-1]))):
            return False
    return True
