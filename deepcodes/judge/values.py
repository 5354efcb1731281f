"""Values at all inputs at once: a *mask* has the bit i where the value at the input with the number i is 1."""


def all_inputs(n):
    return (1 << (1 << n)) - 1


def letter_mask(n, letter, bit):
    """The inputs that keep a literal."""
    return sum([1 << number for number in range(1 << n) if (number >> letter & 1) == bit])


def letter_masks(n):
    """For each letter the masks of both of its literals."""
    return [(letter_mask(n, letter, 0), letter_mask(n, letter, 1)) for letter in range(n)]


def bits_in(number):
    """How many bits 1 a number has."""
    return f"{number:b}".count("1")


def table_mask(table):
    return sum([bit << number for number, bit in enumerate(table)])


def row_number(row):
    return sum([bit << letter for letter, bit in enumerate(row)])


def sum_mask(n):
    """The inputs with an odd number of bits 1."""
    return sum([1 << number for number in range(1 << n) if bits_in(number) & 1])


def meeting(n, masks):
    """The inputs that are in all of the masks."""
    found = all_inputs(n)
    for mask in masks:
        found &= mask
    return found


def together(masks):
    """The inputs that are in some of the masks."""
    found = 0
    for mask in masks:
        found |= mask
    return found


def formula_mask(n, terms):
    pairs = letter_masks(n)
    return together([meeting(n, [pairs[letter][bit] for letter, bit in term]) for term in terms])


def coformula_mask(n, clauses):
    pairs = letter_masks(n)
    return meeting(n, [together([pairs[letter][bit] for letter, bit in clause]) for clause in clauses])


def tree_mask(n, tree):
    return mask_below(letter_masks(n), tree, all_inputs(n))


def mask_below(pairs, tree, there):
    """The inputs of `there` at which the tree has the value 1."""
    if isinstance(tree, int):
        return there if tree else 0
    letter, low, high = tree
    zeros, ones = pairs[letter]
    return mask_below(pairs, low, there & zeros) | mask_below(pairs, high, there & ones)


def circuit_mask(n, circuit):
    pairs = letter_masks(n)
    masks = []
    for line in circuit:
        if line[0] == "letter":
            masks.append(pairs[line[1]][line[2]])
        else:
            lot = [masks[at] for at in line[1]]
            masks.append(meeting(n, lot) if line[0] == "and" else together(lot))
    return masks[-1]


def are_both_there(mask, pairs, restriction):
    """Whether inputs that are in the mask and inputs that are not fit the restriction."""
    n = len(pairs)
    there = meeting(n, [pairs[letter][bit] for letter, bit in enumerate(restriction) if bit != 2])
    return (mask & there) not in (0, there)


def has_certificate(table, row, size):
    """Whether at most so many letters of the row tell the value of the table there."""
    number = row_number(row)
    unlike = [at ^ number for at, value in enumerate(table) if value != table[number]]
    for letters in range(len(table)):
        # The letters tell the value if each input with another value differs at one of them.
        if bits_in(letters) <= size and all([letters & one for one in unlike]):
            return True
    return False
