"""Numbers modulo 3 at all inputs: rows, the polynomials of rows, and sums over sets of inputs.

A *row* has a number for each input, by numbers. Lots of letters are integers here, bit v for
the letter v, and a *mask* is a set of inputs (letters/masks.py).
"""

from deepcodes.trees.growth import letters_in
from deepcodes.waves.waves import lot_integer, spectrum


def coefficients_of(row):
    """For each lot its number in the polynomial that has these values."""
    if len(row) == 1:
        return list(row)
    half_way = len(row) // 2
    low = coefficients_of(row[:half_way])
    high = coefficients_of(row[half_way:])
    return low + [(other - one) % 3 for one, other in zip(low, high)]


def values_by(coefficients):
    """The values of the polynomial that has these numbers at the lots."""
    if len(coefficients) == 1:
        return list(coefficients)
    half_way = len(coefficients) // 2
    low = values_by(coefficients[:half_way])
    high = values_by(coefficients[half_way:])
    return low + [(one + other) % 3 for one, other in zip(low, high)]


def polynomial_by(row):
    """The dict of the polynomial of a row."""
    pairs = [(letters_in(lot), number) for lot, number in enumerate(coefficients_of(row)) if number != 0]
    return {lot: number for lot, number in sorted(pairs)}


def row_by(n, polynomial):
    """The list of the values of a polynomial."""
    coefficients = [0] * (1 << n)
    for lot in polynomial:
        coefficients[lot_integer(lot)] = polynomial[lot]
    return values_by(coefficients)


def degree_by(polynomial):
    return max([len(lot) for lot in polynomial], default=0)


def lowered_row(n, row, others, most):
    """A row alike wherever the other one is the sum of the letters; its lots are of at most `most` letters.

    With y for 1 at a bit 0, 2 at a bit 1, a row is a sum of products of some y. That of all y is
    1 more than the sum, and y * y is 1, so a product of many y is that of all and of the others.
    """
    # Divided by 2 ** n, which is times 2 ** n modulo 3.
    numbers = [(number << n) % 3 for number in spectrum(row)]
    few = [0] * (1 << n)
    many = [0] * (1 << n)
    for lot, number in enumerate(numbers):
        if len(letters_in(lot)) <= most:
            few[lot] = number
        else:
            many[(1 << n) - 1 - lot] = number
    return [(one + other * (third + 1)) % 3 for one, other, third in zip(spectrum(few), spectrum(many), others)]


def size_of(mask):
    """How many inputs are in a mask."""
    return f"{mask:b}".count("1")


def added(classes, mask, number):
    """The inputs by their sums 0, 1, 2, with the number added at the inputs of the mask."""
    return tuple([(classes[total] & ~mask) | (classes[(total - number) % 3] & mask) for total in range(3)])


def zero_sums(there, masks, numbers):
    """The inputs of `there` at which the numbers of the masks that they are in add up to 0."""
    classes = (there, 0, 0)
    for mask, number in zip(masks, numbers):
        classes = added(classes, mask, number)
    return classes[0]
