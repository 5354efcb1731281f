"""How canonical trees grow: term by term, the letters of each left at once.

Letters and bits are kept as integers here, bit v for the letter v. A *mark* of a term is the
pair of its letters and of those that it asks to be 1; that of a restriction is the pair of
the told letters and of those told 1.
"""

from deepcodes.told.restrictions import literals_told


def mark_of(literals):
    letters = sum([1 << letter for letter, _ in literals])
    return letters, sum([bit << letter for letter, bit in literals])


def marks_of(formula):
    return [mark_of(term) for term in formula]


def mark_of_told(restriction):
    return mark_of(literals_told(restriction))


def letters_in(mark):
    """The ascending tuple of the letters of an integer."""
    return tuple([letter for letter in range(mark.bit_length()) if mark >> letter & 1])


def first_open(marks, start, told, ones):
    """The pair of the index of the first term that is not false and of the letters of its left, or None.

    The terms ahead of `start` are known to be false.
    """
    for index in range(start, len(marks)):
        letters, asked = marks[index]
        if not (ones ^ asked) & letters & told:
            return index, letters & ~told
    return None


def are_all_kept(clauses, told, ones):
    """Whether each clause has a kept literal."""
    return all([(told & letters & ~(ones ^ asked)) != 0 for letters, asked in clauses])


def grown(marks, clauses, start, told, ones):
    """The canonical tree, that ends with 1 as soon as all clauses are kept, if clauses are given."""
    if clauses is not None and are_all_kept(clauses, told, ones):
        return 1
    taken = first_open(marks, start, told, ones)
    if taken is None:
        return 0
    index, left = taken
    if left == 0:
        return 1
    return grown_asking(marks, clauses, taken, told, ones)


def grown_asking(marks, clauses, taken, told, ones):
    """The tree that asks the letters that are left of the taken term, and then goes on."""
    index, left = taken
    if left == 0:
        # What is answered can only break more terms, so the search goes on where it stopped.
        return grown(marks, clauses, index, told, ones)
    letter = (left & -left).bit_length() - 1
    one = 1 << letter
    behind = (index, left ^ one)
    low = grown_asking(marks, clauses, behind, told | one, ones)
    high = grown_asking(marks, clauses, behind, told | one, ones | one)
    return (letter, low, high)


def canonical_grown(restriction, formula):
    """The canonical tree of the formula under the restriction."""
    told, ones = mark_of_told(restriction)
    return grown(marks_of(formula), None, 0, told, ones)


def stopped_grown(formula, coformula):
    """The canonical tree, all letters free, that ends with 1 once each clause has a kept literal."""
    return grown(marks_of(formula), marks_of(coformula), 0, 0, 0)


def deep_grown(marks, start, told, ones, s, whole=False):
    """The first tuple of the first s literals along a way of the canonical tree, None if there is none.

    If `whole`, the literals go on to the end of the piece that the last of them is in.
    """
    if s <= 0:
        return ()
    taken = first_open(marks, start, told, ones)
    if taken is None or taken[1] == 0:
        return None
    return deep_asking(marks, taken, told, ones, s, whole)


def deep_asking(marks, taken, told, ones, s, whole):
    """The same behind the letters that are left of the taken term."""
    index, left = taken
    if left == 0 or (s == 0 and not whole):
        return deep_grown(marks, index, told, ones, s, whole)
    letter = (left & -left).bit_length() - 1
    one = 1 << letter
    for answer in (0, 1):
        behind = deep_asking(marks, (index, left ^ one), told | one, ones | answer << letter, s - 1, whole)
        if behind is not None:
            return ((letter, answer), *behind)
    return None


def is_deep_under(marks, restriction, s):
    """Whether the canonical tree under the restriction is at least s deep."""
    told, ones = mark_of_told(restriction)
    return deep_grown(marks, 0, told, ones, s) is not None
