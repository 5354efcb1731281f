"""Inputs and tables: what tables are made of, and what they hang on."""

from deepcodes.checks import (
    are_bits, are_letters, is_any_table, is_letter, is_table_of, is_tuple_of, letters_of, need_any_table, need_bit,
    need_letter, need_n, need_number, need_row, need_table
)
from deepcodes.errors import InvalidOperation, InvalidTable
from deepcodes.letters.masks import gathered, row_at, row_number, spread


def inputs(n):
    """All inputs, by numbers."""
    need_n(n)
    return tuple([row_at(n, number) for number in range(1 << n)])


def input_at(n, number):
    """The input with a number."""
    need_n(n)
    need_number(number, 0, (1 << n) - 1)
    return row_at(n, number)


def number_of(n, row):
    """The number of an input."""
    need_n(n)
    need_row(n, row)
    return row_number(row)


def is_input(n, value):
    need_n(n)
    return are_bits(value, n)


def is_table(n, value):
    need_n(n)
    return is_table_of(n, value)


def value_at(table, row):
    """The value of a table at an input."""
    need_any_table(table)
    need_row(letters_of(table), row)
    return table[row_number(row)]


def yes_inputs(table):
    """The ascending numbers of the inputs with the value 1."""
    need_any_table(table)
    return tuple([number for number, value in enumerate(table) if value == 1])


def half(table, letter, bit):
    """The values of the inputs with this bit at the letter."""
    need_any_table(table)
    need_letter(letters_of(table), letter)
    need_bit(bit)
    return tuple([value for number, value in enumerate(table) if (number >> letter & 1) == bit])


def joined(low, high, letter):
    """The table with the halves `low` and `high` for the letter."""
    if not is_any_table(low) or letters_of(low) > 9:
        raise InvalidTable("this is no table of at most 9 letters")
    n = letters_of(low)
    need_table(n, high)
    need_number(letter, 0, n)
    others = [v for v in range(n + 1) if v != letter]
    sides = (low, high)
    return tuple([sides[number >> letter & 1][gathered(number, others)] for number in range(2 << n)])


def not_of(table):
    need_any_table(table)
    return tuple([1 - value for value in table])


def dual_of(table):
    need_any_table(table)
    # The opposite input of the first one is the last one, and so on inwards.
    return tuple([1 - value for value in table[::-1]])


def need_two_tables(table, other):
    need_any_table(table)
    need_table(letters_of(table), other)


def both(table, other):
    """1 where both values are 1."""
    need_two_tables(table, other)
    return tuple([one & two for one, two in zip(table, other)])


def either(table, other):
    """1 where at least one of both values is 1."""
    need_two_tables(table, other)
    return tuple([one | two for one, two in zip(table, other)])


def sum_of(table, other):
    """1 where just one of both values is 1."""
    need_two_tables(table, other)
    return tuple([one ^ two for one, two in zip(table, other)])


def is_turn(table, number, letter):
    """Whether the other bit at the letter changes the value at the input with the number."""
    return table[number] != table[number ^ (1 << letter)]


def letters_that_matter(table):
    return tuple([letter for letter in range(letters_of(table)) if does_matter(table, letter)])


def does_matter(table, letter):
    return any([is_turn(table, number, letter) for number in range(len(table))])


def matters(table):
    """The ascending tuple of the letters that matter."""
    need_any_table(table)
    return letters_that_matter(table)


def narrowed(table):
    """The table of the letters that matter alone."""
    need_any_table(table)
    letters = letters_that_matter(table)
    return tuple([table[spread(number, letters)] for number in range(1 << len(letters))])


def widened(n, table, letters):
    """The table of n letters that has the value of the table at the bits of `letters`."""
    need_n(n)
    need_any_table(table)
    if not are_letters(n, letters) or len(letters) != letters_of(table):
        raise InvalidOperation("these are not as many ascending letters as the table has")
    return tuple([table[gathered(number, letters)] for number in range(1 << n)])


def renamed(table, order):
    """The table for which letter i is now called order[i]."""
    need_any_table(table)
    n = letters_of(table)
    if not is_tuple_of(order, n) or not all([is_letter(n, letter) for letter in order]):
        raise InvalidOperation("this is no new name for each letter")
    if sorted(order) != list(range(n)):
        raise InvalidOperation("two letters would have the same name")
    return tuple([table[gathered(number, order)] for number in range(1 << n)])


def table_of_sum(n):
    table = (0,)
    for _ in range(n):
        # One letter more, with the bit 1 in the second half, turns the sum there.
        table = table + tuple([1 - value for value in table])
    return table


def sum_table(n):
    """The table of the sum of n letters."""
    need_n(n)
    return table_of_sum(n)


def sum_answer(table):
    """Whether the table is the sum, or its not, or an input and a letter that show that it is neither."""
    need_any_table(table)
    n = letters_of(table)
    if agreement_of(table) == len(table):
        return ("sum",)
    if agreement_of(table) == 0:
        return ("not sum",)
    # Neighbours that never agree would make the table the sum or its not.
    pairs = [(number, letter) for letter in range(n) for number in range(len(table))]
    kept = [(number, letter) for number, letter in pairs if not is_turn(table, number, letter)]
    number, letter = kept[0]
    return ("kept", row_at(n, number), letter)


def is_sum_answer(table, value):
    need_any_table(table)
    if value == ("sum",):
        return agreement_of(table) == len(table)
    if value == ("not sum",):
        return agreement_of(table) == 0
    if not is_tuple_of(value, 3) or value[0] != "kept":
        return False
    n = letters_of(table)
    _, row, letter = value
    if not are_bits(row, n) or not is_letter(n, letter):
        return False
    return not is_turn(table, row_number(row), letter)


def agreement_of(table):
    return sum([value == odd for value, odd in zip(table, table_of_sum(letters_of(table)))])


def agreement(table):
    """At how many inputs the value is that of the sum."""
    need_any_table(table)
    return agreement_of(table)


def unlike_input(table, other):
    """The first input at which the values are unlike, None if there is none."""
    need_two_tables(table, other)
    unlike = [number for number in range(len(table)) if table[number] != other[number]]
    return row_at(letters_of(table), unlike[0]) if unlike else None
