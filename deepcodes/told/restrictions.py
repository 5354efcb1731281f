"""Restrictions: their numbers, restrictions behind one another, and papers on them."""

from math import comb

from deepcodes.checks import (
    are_bits, is_letter, is_literal, is_number, is_restriction_of, is_tuple_of, letters_of, need_any_restriction,
    need_any_table, need_n, need_number, need_restriction, told_by
)
from deepcodes.errors import InvalidOperation, InvalidRestriction
from deepcodes.letters.masks import row_at, spread
from deepcodes.powers import power

MOST_PARTS = 200


def is_restriction(n, value):
    need_n(n)
    return is_restriction_of(n, value)


def restriction_number(restriction):
    number = 0
    for member in reversed(restriction):
        number = 3 * number + member
    return number


def number_of(restriction):
    """The sum of the members i times 3 ** i."""
    need_any_restriction(restriction)
    return restriction_number(restriction)


def restriction_at(n, number):
    """The restriction with a number."""
    need_n(n)
    need_number(number, 0, power(3, n) - 1)
    members = []
    rest = number
    for _ in range(n):
        rest, member = divmod(rest, 3)
        members.append(member)
    return tuple(members)


def restrictions_with(n, free):
    """The list of all restrictions with so many free letters, by numbers."""
    if free < 0 or free > n:
        return []
    if n == 0:
        return [()]
    # The last letter has the greatest weight, so those that tell it 0 come first, and so on.
    told = restrictions_with(n - 1, free)
    not_told = restrictions_with(n - 1, free - 1)
    return [(*members, bit) for bit in (0, 1) for members in told] + [(*members, 2) for members in not_told]


def restrictions(n, free):
    """All restrictions with so many free letters, ascending by numbers."""
    need_n(n)
    need_number(free, 0, n)
    return tuple(restrictions_with(n, free))


def count_with(n, free):
    return comb(n, free) << (n - free)


def how_many(n, free):
    """How many restrictions have so many free letters."""
    need_n(n)
    need_number(free, 0, n)
    return count_with(n, free)


def letters_free(restriction):
    return tuple([letter for letter, member in enumerate(restriction) if member == 2])


def free_letters(restriction):
    """The ascending tuple of the free letters."""
    need_any_restriction(restriction)
    return letters_free(restriction)


def literals_told(restriction):
    return [(letter, member) for letter, member in enumerate(restriction) if member != 2]


def fitting_numbers(restriction):
    """The ascending numbers of the inputs that fit."""
    letters = letters_free(restriction)
    told = sum([1 << letter for letter, member in enumerate(restriction) if member == 1])
    return [told + spread(number, letters) for number in range(1 << len(letters))]


def fitting(restriction):
    """The inputs that fit, by numbers."""
    need_any_restriction(restriction)
    return tuple([row_at(len(restriction), number) for number in fitting_numbers(restriction)])


def does_fit(row, restriction):
    """Whether the input has the told bits."""
    return all([member in (2, bit) for bit, member in zip(row, restriction)])


def told_too(restriction, literals):
    """The restriction with the letters of the literals told, too."""
    members = list(restriction)
    for letter, bit in literals:
        members[letter] = bit
    return tuple(members)


def with_literals(restriction, literals):
    """The restriction with some literals of free letters."""
    need_any_restriction(restriction)
    n = len(restriction)
    if not isinstance(literals, tuple) or not all([is_literal(n, literal) for literal in literals]):
        raise InvalidOperation("this is no tuple of literals")
    letters = [letter for letter, _ in literals]
    if len(set(letters)) != len(letters) or any([restriction[letter] != 2 for letter in letters]):
        raise InvalidOperation("a letter is told already, or twice")
    return told_too(restriction, literals)


def all_behind(restriction, free):
    """The list of the restrictions with so many free letters that tell all of this one, by numbers."""
    letters = letters_free(restriction)
    # The letters ascend, so the restrictions do if their parts behind this one do.
    return [told_too(restriction, list(zip(letters, part))) for part in restrictions_with(len(letters), free)]


def behind(first, second):
    """The restriction that tells what the first one tells, and what the second one tells behind it."""
    need_any_restriction(first)
    letters = letters_free(first)
    need_restriction(len(letters), second)
    return told_too(first, list(zip(letters, second)))


def values_under(table, restriction):
    return tuple([table[number] for number in fitting_numbers(restriction)])


def table_under(table, restriction):
    """The table of the free letters under the restriction."""
    need_any_table(table)
    need_restriction(letters_of(table), restriction)
    return values_under(table, restriction)


def rest_behind(first, restriction):
    """The restriction that makes this one behind the first one, all of whose told letters it tells alike."""
    return tuple([restriction[letter] for letter in letters_free(first)])


def through(restriction, free):
    """The pairs of restrictions, the first one with so many free letters, that make this one."""
    need_any_restriction(restriction)
    need_number(free, len(letters_free(restriction)), len(restriction))
    firsts = freed(restriction, free - len(letters_free(restriction)))
    return tuple([(first, rest_behind(first, restriction)) for first in firsts])


def freed(restriction, many):
    """The list of this restriction with so many told letters free again, by numbers."""
    if not restriction:
        return [()] if many == 0 else []
    last = restriction[-1]
    firsts = [(*members, last) for members in freed(restriction[:-1], many)]
    if last != 2 and many > 0:
        firsts.extend([(*members, 2) for members in freed(restriction[:-1], many - 1)])
    return firsts


def need_two(one, other):
    need_any_restriction(one)
    need_restriction(len(one), other)


def does_lack(one, other, letter):
    """Whether the other one tells the letter, and the one does not tell it alike."""
    return other[letter] not in (2, one[letter])


def order_answer(one, other):
    """The rest that makes the one behind the other one, or a letter that is not told alike."""
    need_two(one, other)
    letters = [letter for letter in range(len(one)) if does_lack(one, other, letter)]
    return ("letter", letters[0]) if letters else ("rest", rest_behind(other, one))


def is_order_answer(one, other, value):
    need_two(one, other)
    letter = told_by("letter", value)
    if is_letter(len(one), letter):
        return does_lack(one, other, letter)
    if any([does_lack(one, other, letter) for letter in range(len(one))]):
        return False
    rest = told_by("rest", value)
    return is_restriction_of(len(letters_free(other)), rest) and rest == rest_behind(other, one)


def are_unlike(one, other, letter):
    """Whether both tell the letter, with unlike bits."""
    return one[letter] != other[letter] and 2 not in (one[letter], other[letter])


def unlike_letters(one, other):
    return [letter for letter in range(len(one)) if are_unlike(one, other, letter)]


def told_by_any(one, other):
    return tuple([min(members) for members in zip(one, other)])


def both_answer(one, other):
    """The restriction that just the common inputs fit, or a letter that is told unlike."""
    need_two(one, other)
    letters = unlike_letters(one, other)
    return ("letter", letters[0]) if letters else ("both", told_by_any(one, other))


def is_both_answer(one, other, value):
    need_two(one, other)
    letter = told_by("letter", value)
    if is_letter(len(one), letter):
        return are_unlike(one, other, letter)
    restriction = told_by("both", value)
    if unlike_letters(one, other) or not is_restriction_of(len(one), restriction):
        return False
    return restriction == told_by_any(one, other)


def around(one, other):
    """What both tell alike."""
    need_two(one, other)
    return tuple([first if first == second else 2 for first, second in zip(one, other)])


def need_some(n, some):
    need_n(n)
    if not isinstance(some, tuple) or len(some) > MOST_PARTS:
        raise InvalidRestriction("this is no tuple of at most 200 restrictions")
    if not all([is_restriction_of(n, restriction) for restriction in some]):
        raise InvalidRestriction("some of these are no restrictions of the letters")


def parts_found(n, some):
    """The answer to whether the restrictions part the inputs."""
    owners = {}
    for at, restriction in enumerate(some):
        for number in fitting_numbers(restriction):
            if number in owners:
                return ("two", row_at(n, number), owners[number], at)
            owners[number] = at
    lost = [number for number in range(1 << n) if number not in owners]
    return ("none", row_at(n, lost[0])) if lost else ("parts",)


def parts_answer(n, some):
    """That the restrictions part the inputs, or an input that fits none of them, or two."""
    need_some(n, some)
    return parts_found(n, some)


def is_parts_answer(n, some, value):
    need_some(n, some)
    row = told_by("none", value)
    if are_bits(row, n):
        return not any([does_fit(row, restriction) for restriction in some])
    if is_tuple_of(value, 4) and value[0] == "two" and are_bits(value[1], n):
        return are_two(some, value[1], value[2], value[3])
    return value == ("parts",) and parts_found(n, some) == ("parts",)


def are_two(some, row, at, later):
    """Whether the input fits those of the restrictions with these two ascending indices."""
    last = len(some) - 1
    if not is_number(at, 0, last) or not is_number(later, 0, last) or at >= later:
        return False
    return does_fit(row, some[at]) and does_fit(row, some[later])
