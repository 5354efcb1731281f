"""Waves: how tables agree with the sums of lots of letters, and what this tells of least trees."""

from math import comb

from deepcodes.checks import (
    are_letters, is_integer, is_just, is_restriction_of, letters_of, need_any_restriction, need_any_table, need_depth,
    need_n, need_number, need_table, need_work, told_by
)
from deepcodes.errors import InvalidOperation
from deepcodes.letters.masks import row_at
from deepcodes.letters.rows import agreement_of
from deepcodes.powers import power
from deepcodes.told.restrictions import (
    count_with, letters_free, restriction_number, restrictions_with, told_too, values_under
)
from deepcodes.trees.growth import letters_in
from deepcodes.trees.least import least_depths


def spectrum(numbers):
    """For each lot the sum of the numbers of all inputs, each with the sign of the bits at the lot.

    Lots are kept as integers here, bit v for the letter v, so they stand by these integers.
    """
    if len(numbers) == 1:
        return list(numbers)
    half_way = len(numbers) // 2
    low = spectrum(numbers[:half_way])
    high = spectrum(numbers[half_way:])
    sums = [one + other for one, other in zip(low, high)]
    return sums + [one - other for one, other in zip(low, high)]


def signs_of(table):
    return [1 - 2 * value for value in table]


def all_waves(table):
    """The list of the waves of all lots, by the integers of the lots."""
    return spectrum(signs_of(table))


def lot_integer(lot):
    return sum([1 << letter for letter in lot])


def waves_named(numbers, letters):
    """The dict of waves, by the integers of lots, to these lots of the letters."""
    pairs = [(tuple([letters[at] for at in letters_in(lot)]), number) for lot, number in enumerate(numbers)]
    return {lot: number for lot, number in sorted(pairs)}


def wave(table, lot):
    """The wave of a lot."""
    need_any_table(table)
    if not are_letters(letters_of(table), lot):
        raise InvalidOperation("this is no ascending tuple of letters")
    return all_waves(table)[lot_integer(lot)]


def waves(table):
    """The dict from all lots to their waves."""
    need_any_table(table)
    return waves_named(all_waves(table), list(range(letters_of(table))))


def table_told(n, value):
    """The table whose waves the value is, None if it is no such dict."""
    if not isinstance(value, dict) or len(value) != 1 << n:
        return None
    numbers = [0] * (1 << n)
    for lot in value:
        if not are_letters(n, lot) or not is_integer(value[lot]):
            return None
        numbers[lot_integer(lot)] = value[lot]
    signs = spectrum(numbers)
    if not all([sign in (1 << n, -1 << n) for sign in signs]):
        return None
    return tuple([int(sign < 0) for sign in signs])


def is_waves(n, value):
    need_n(n)
    return table_told(n, value) is not None


def table_by(n, waves):
    """The table that has these waves."""
    need_n(n)
    table = table_told(n, waves)
    if table is None:
        raise InvalidOperation("these are no waves of a table of the letters")
    return table


def waves_under(restriction, table):
    """The waves of the table under the restriction, with the letters' own names."""
    need_any_restriction(restriction)
    need_table(len(restriction), table)
    return waves_named(all_waves(values_under(table, restriction)), letters_free(restriction))


def weights_of_sizes(table):
    """The list of the sums of the squares of the waves, by the size of the lot."""
    sums = [0] * (letters_of(table) + 1)
    for lot, number in enumerate(all_waves(table)):
        sums[len(letters_in(lot))] += number * number
    return sums


def weights(table):
    """The sums of the squares of the waves of the lots of 0, 1, .. letters."""
    need_any_table(table)
    return tuple(weights_of_sizes(table))


def degree(table):
    """The greatest size of a lot whose wave is not 0."""
    need_any_table(table)
    return max([size for size, weight in enumerate(weights_of_sizes(table)) if weight > 0])


def need_table_and_s(table, s):
    need_any_table(table)
    need_depth(s)


def has_whole_wave(table):
    """Whether the wave of all letters is not 0."""
    return 2 * agreement_of(table) != len(table)


def first_great_lot(table, s):
    """The letters of a lot of at least s letters whose wave is not 0, None if there is none."""
    for lot, number in enumerate(all_waves(table)):
        letters = letters_in(lot)
        if number != 0 and len(letters) >= s:
            return letters
    return None


def degree_answer(table, s):
    """That the degree is below s, or a restriction with s free letters that shows that it is not."""
    need_table_and_s(table, s)
    great = first_great_lot(table, s)
    if great is None:
        return ("low",)
    n = letters_of(table)
    others = [letter for letter in range(n) if letter not in great[:s]]
    # The squares of these waves add up to the square of that lot's wave and of others, so one is not 0.
    told = [told_too((2,) * n, list(zip(others, row_at(n - s, number)))) for number in range(1 << (n - s))]
    return ("deep", [restriction for restriction in told if has_whole_wave(values_under(table, restriction))][0])


def is_degree_answer(table, s, value):
    need_table_and_s(table, s)
    if value == ("low",):
        return first_great_lot(table, s) is None
    restriction = told_by("deep", value)
    if not is_restriction_of(letters_of(table), restriction) or restriction.count(2) != s:
        return False
    return has_whole_wave(values_under(table, restriction))


def lots_meeting(n, j, m, s):
    """How many lots of m of n letters have at least s in common with a lot of j letters."""
    return sum([comb(j, common) * comb(n - j, m - common) for common in range(s, min(j, m) + 1)])


def keeping(n, j, m, s):
    """How many lots of m letters have at least s in common with a told lot of j letters."""
    need_n(n)
    need_number(j, 0, n)
    need_depth(m)
    need_depth(s)
    return lots_meeting(n, j, m, s)


def need_deep_limit(table, m, s):
    need_any_table(table)
    need_depth(m)
    need_depth(s)
    n = letters_of(table)
    if m <= n:
        need_work(count_with(n, m), power(3, m))


def deep_weight(table, m, s):
    """The weights, each as often as lots of m letters have s in common with one of its size."""
    need_deep_limit(table, m, s)
    n = letters_of(table)
    return sum([weight * lots_meeting(n, size, m, s) for size, weight in enumerate(weights_of_sizes(table))])


def deep_number(table, m, s):
    """Under how many restrictions with m free letters the least tree is at least s deep."""
    need_deep_limit(table, m, s)
    depths = least_depths(table)
    restrictions = restrictions_with(letters_of(table), m)
    return len([restriction for restriction in restrictions if depths[restriction_number(restriction)] >= s])


def paper_of(table, m, s):
    """For all restrictions with m free letters the least depth and the squares of the waves of great lots."""
    depths = least_depths(table)
    return tuple([
        (depths[restriction_number(restriction)], sum(weights_of_sizes(values_under(table, restriction))[s:]))
        for restriction in restrictions_with(letters_of(table), m)
    ])


def weight_paper(table, m, s):
    """For all restrictions with m free letters, ascending, the two numbers that are weighed against one another."""
    need_deep_limit(table, m, s)
    return paper_of(table, m, s)


def is_weight_paper(table, m, s, value):
    need_deep_limit(table, m, s)
    return is_just(value, paper_of(table, m, s))
