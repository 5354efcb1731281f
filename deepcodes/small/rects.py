"""Neighbours parted by the leaves of a bush, and how many leaves this asks for."""

from deepcodes.checks import are_letters, is_number, is_tuple_of, letters_of, need_any_table, need_n
from deepcodes.errors import InvalidOperation
from deepcodes.letters.masks import all_inputs, literal_masks, mask_of
from deepcodes.powers import rounded_up
from deepcodes.small.shrink import bush_mask, is_gate, is_leaf, leaves_in, mask_of_bush, need_bush, sum_and_opposite


def numbers_in(mask):
    """The ascending tuple of the numbers of the inputs of a mask."""
    return tuple([number for number in range(mask.bit_length()) if mask >> number & 1])


def mask_with(numbers):
    return sum([1 << number for number in numbers])


def are_numbers(n, mask, value):
    """Whether the value is an ascending tuple of numbers of inputs of a mask."""
    # Like letters of the 2 ** n ones, these are ascending numbers below another one.
    return are_letters(1 << n, value) and not mask_with(value) & ~mask


def need_numbers(n, mask, value):
    if not are_numbers(n, mask, value):
        raise InvalidOperation("this is no ascending tuple of numbers of these inputs")


def need_parted(n, bush, yes, no):
    need_bush(n, bush)
    mask = mask_of_bush(n, bush)
    need_numbers(n, mask, yes)
    need_numbers(n, all_inputs(n) & ~mask, no)


def parts_of(bush, pairs, yes, no):
    """For each leaf the triple of its letter and of the masks of what comes there of `yes` and of `no`."""
    if not is_gate(bush):
        return [(bush[0], yes, no)] if is_leaf(bush) else []
    word, first, second = bush
    there = bush_mask(first, pairs, yes | no)
    if word == "and":
        return parts_of(first, pairs, yes, no & ~there) + parts_of(second, pairs, yes, no & there)
    return parts_of(first, pairs, yes & there, no) + parts_of(second, pairs, yes & ~there, no)


def parted(n, bush, yes, no):
    return parts_of(bush, literal_masks(n), mask_with(yes), mask_with(no))


def leaf_parts(n, bush, yes, no):
    """For each leaf the numbers of `yes` and of `no` that come there."""
    need_parted(n, bush, yes, no)
    return tuple([(numbers_in(some), numbers_in(others)) for _, some, others in parted(n, bush, yes, no)])


def leaf_marks(n, bush, yes, no):
    """For each leaf how many neighbours, how many of `yes` and how many of `no` come there."""
    need_parted(n, bush, yes, no)
    return tuple([
        (neighbours_at(letter, numbers_in(some), others), len(numbers_in(some)), len(numbers_in(others)))
        for letter, some, others in parted(n, bush, yes, no)
    ])


def neighbours_at(letter, numbers, mask):
    """How many of the numbers have an input of the mask beside them that differs at the letter."""
    return len([number for number in numbers if mask >> (number ^ (1 << letter)) & 1])


def counted_neighbours(n, yes, no):
    mask = mask_with(no)
    return sum([neighbours_at(letter, yes, mask) for letter in range(n)])


def need_pairs(n, yes, no):
    need_n(n)
    need_numbers(n, all_inputs(n), yes)
    need_numbers(n, all_inputs(n), no)


def neighbour_count(n, yes, no):
    """How many pairs of one of `yes` and one of `no` differ at just one letter."""
    need_pairs(n, yes, no)
    return counted_neighbours(n, yes, no)


def least_by_pairs(n, yes, no):
    """How many leaves part the pairs at least, 0 without pairs."""
    count = counted_neighbours(n, yes, no)
    return rounded_up(count * count, len(yes) * len(no)) if yes and no else 0


def leaves_at_least(n, yes, no):
    """How many leaves a bush has at least that parts these."""
    need_pairs(n, yes, no)
    return least_by_pairs(n, yes, no)


def sides_of(table):
    """The masks of the inputs with the values 1 and 0."""
    mask = mask_of(table)
    return mask, all_inputs(letters_of(table)) & ~mask


def rect_paper(table):
    """The paper of all inputs that shows how many leaves each bush with the table has at least."""
    need_any_table(table)
    yes, no = [numbers_in(mask) for mask in sides_of(table)]
    return ("leaves", yes, no, least_by_pairs(letters_of(table), yes, no))


def is_rect_paper(table, value):
    need_any_table(table)
    if not is_tuple_of(value, 4) or value[0] != "leaves":
        return False
    n = letters_of(table)
    _, yes, no, many = value
    if not all([are_numbers(n, mask, some) for mask, some in zip(sides_of(table), (yes, no))]):
        return False
    return is_number(many, 0, least_by_pairs(n, yes, no))


def sum_bounds(n):
    """The square of n, and the number of leaves of the told bush of the sum."""
    need_n(n)
    return (n * n, len(leaves_in(sum_and_opposite(0, n)[0])))
