"""Sets of inputs as integers, so that one bit operation looks at all inputs at once.

Bit i of a *mask* is 1 if the input with the number i is in the set.
"""


def row_at(n, number):
    """The input with a number."""
    return tuple([number >> letter & 1 for letter in range(n)])


def row_number(row):
    """The number of an input."""
    return sum([bit << letter for letter, bit in enumerate(row)])


def gathered(number, letters):
    """The number of the row of the bits that an input has at these letters."""
    return sum([(number >> letter & 1) << at for at, letter in enumerate(letters)])


def spread(number, letters):
    """The number of the input that has the bits of a number at these letters, and 0 elsewhere."""
    return sum([(number >> at & 1) << letter for at, letter in enumerate(letters)])


def mask_of(table):
    """The inputs with the value 1."""
    return sum([bit << number for number, bit in enumerate(table)])


def table_of_mask(n, mask):
    return tuple([mask >> number & 1 for number in range(1 << n)])


def first_row(n, mask):
    """The first input of a mask that has one."""
    return row_at(n, (mask & -mask).bit_length() - 1)


def all_inputs(n):
    return (1 << (1 << n)) - 1


def literal_masks(n):
    """For each letter the pair of the inputs with the bit 0 and of those with the bit 1 there."""
    pairs = []
    for letter in range(n):
        low = (1 << (1 << letter)) - 1
        for greater in range(letter + 1, n):
            low |= low << (1 << greater)
        pairs.append((low, all_inputs(n) ^ low))
    return pairs


def sum_mask(n):
    """The inputs at which the sum of the letters has the value 1."""
    mask = 0
    for letter in range(n):
        # Those with the bit 1 at one letter more have the other sum.
        mask |= (all_inputs(letter) ^ mask) << (1 << letter)
    return mask


def term_mask(n, term):
    """The inputs at which a term is true."""
    return kept_by_all(all_inputs(n), literal_masks(n), term)


def kept_by_all(mask, pairs, literals):
    for letter, bit in literals:
        mask &= pairs[letter][bit]
    return mask


def formula_mask(n, formula):
    """The inputs at which a formula is true."""
    pairs = literal_masks(n)
    mask = 0
    for term in formula:
        mask |= kept_by_all(all_inputs(n), pairs, term)
    return mask


def coformula_mask(n, formula):
    """The inputs at which a formula is true that is read as a coformula."""
    pairs = literal_masks(n)
    mask = all_inputs(n)
    for clause in formula:
        some = 0
        for letter, bit in clause:
            some |= pairs[letter][bit]
        mask &= some
    return mask


def values_told(table):
    """For each restriction, by numbers: 0 or 1 if all inputs that fit have this value, else 2."""
    if len(table) == 1:
        return list(table)
    half_way = len(table) // 2
    # The last letter has the greatest weight, in the numbers of inputs and of restrictions alike.
    low = values_told(table[:half_way])
    high = values_told(table[half_way:])
    return low + high + [one if one == other else 2 for one, other in zip(low, high)]
