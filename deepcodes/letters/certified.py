"""Certificates of many inputs at once, and the terms and clauses that they make.

A *mask* is a set of inputs (letters/masks.py). An input of a mask is certified by letters if
all inputs with the same bits there are in the mask, too.
"""

from itertools import combinations

from deepcodes.letters.masks import kept_by_all, literal_masks, row_at


def certified(pairs, mask, letters):
    """The inputs of a mask that are certified by these letters; `pairs` are the masks of all literals."""
    for letter, (zeros, _) in enumerate(pairs):
        if letter not in letters:
            # Of two inputs that differ here alone both stay, or none.
            both = mask & zeros & (mask >> (1 << letter))
            mask = both | (both << (1 << letter))
    return mask


def terms_within(n, mask, width):
    """Terms of at most so many literals that are true at inputs of the mask alone, and the inputs left over.

    Just the inputs that no so many letters certify are left over.
    """
    pairs = literal_masks(n)
    terms = []
    rest = mask
    for size in range(min(n, width) + 1):
        for letters in combinations(range(n), size):
            found = rest & certified(pairs, mask, letters)
            while found:
                row = row_at(n, (found & -found).bit_length() - 1)
                term = tuple([(letter, row[letter]) for letter in letters])
                there = kept_by_all(mask, pairs, term)
                terms.append(term)
                rest &= ~there
                found &= ~there
    return terms, rest


def uncertified(n, mask, width):
    """The inputs of a mask that no so many letters certify."""
    pairs = literal_masks(n)
    rest = mask
    for size in range(min(n, width) + 1):
        for letters in combinations(range(n), size):
            rest &= ~certified(pairs, mask, letters)
    return rest


def width_needed(n, mask):
    """The greatest length of the shortest certificates of the inputs of a mask, 0 without inputs."""
    for width in range(n):
        if not uncertified(n, mask, width):
            return width
    return n
