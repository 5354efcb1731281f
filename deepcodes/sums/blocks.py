"""Circuits that tell the sum by blocks: groups of letters, groups of groups, and so on."""

from deepcodes.checks import is_number, need_number
from deepcodes.circuits.circuits import MOST_LINES, has_circuit_form, need_circuit, small_pushed
from deepcodes.circuits.lines import OTHER_WORDS, circuit_mask, depth_of_circuit
from deepcodes.circuits.making import gate_at, line_at
from deepcodes.errors import InvalidOperation, Refused, TooMany
from deepcodes.letters.masks import row_at, sum_mask
from deepcodes.powers import rounded_up

MOST_SIZE = 10
MOST_LEVELS = 4


def need_letters(n):
    need_number(n, 1, 10)


def members_ahead(n, sizes):
    """The list of the numbers of members ahead of each level, and at last."""
    numbers = [n]
    for size in sizes:
        numbers.append(rounded_up(numbers[-1], size))
    return numbers


def do_fit_letters(n, value):
    """Whether the value is sizes that fit."""
    if not isinstance(value, tuple) or len(value) > MOST_LEVELS:
        return False
    if not all([is_number(size, 2, MOST_SIZE) for size in value]):
        return False
    numbers = members_ahead(n, value)
    return numbers[-1] == 1 and all([number > 1 for number in numbers[:-1]])


def need_sizes(n, sizes):
    need_letters(n)
    if not do_fit_letters(n, sizes):
        raise InvalidOperation("these are no sizes that fit")


def is_sizes(n, value):
    need_letters(n)
    return do_fit_letters(n, value)


def members_of(n, sizes):
    """The numbers of members ahead of each level, and at last."""
    need_sizes(n, sizes)
    return tuple(members_ahead(n, sizes))


def lines_counted(n, sizes):
    """The number of lines of the circuit by blocks."""
    if n == 1:
        return 1
    total = 2 * n
    for number, size in zip(members_ahead(n, sizes), sizes):
        groups = [min(size, number - at) for at in range(0, number, size)]
        if len(groups) == 1:
            # Of the last group the other value is not needed.
            total += (1 << (number - 1)) + 1
        else:
            total += sum([(1 << many) + 2 for many in groups if many > 1])
    return total


def blocks_number(n, sizes):
    """The number of lines of the circuit by blocks."""
    need_sizes(n, sizes)
    return lines_counted(n, sizes)


def rows_with(many, odd):
    """The rows of so many bits with an odd sum, for 1, or an even one."""
    rows = [row_at(many, number) for number in range(1 << many)]
    return [row for row in rows if (sum(row) & 1) == odd]


def group_line(lines, group, inner, bit):
    """The line that has the value 1 where the sum of a group of members is the bit.

    A member is a pair of lines: the first one has its other value, the second one its value. For
    a group of one member they are the lines of this member, as a gate of one line is this line.
    """
    # An and is true at one row, an or is false at one: so ors stand for the rows with the other sum.
    turn = 0 if inner == "and" else 1
    rows = rows_with(len(group), bit ^ turn)
    parts = [[pair[one ^ turn] for pair, one in zip(group, row)] for row in rows]
    return gate_at(lines, OTHER_WORDS[inner], [gate_at(lines, inner, part) for part in parts])


def lines_by_blocks(n, sizes):
    """The circuit of a number of letters from 2 on."""
    lines = {}
    members = [tuple([line_at(lines, ("letter", letter, bit)) for bit in (0, 1)]) for letter in range(n)]
    inner = "and"
    for size in sizes:
        groups = [members[at:at + size] for at in range(0, len(members), size)]
        bits = (0, 1) if len(groups) > 1 else (1,)
        members = [tuple([group_line(lines, group, inner, bit) for bit in bits]) for group in groups]
        inner = OTHER_WORDS[inner]
    return tuple(lines)


def sum_circuit(n, sizes):
    """A circuit that tells the sum, of as many lines as blocks_number says."""
    need_sizes(n, sizes)
    if lines_counted(n, sizes) > MOST_LINES:
        raise TooMany(MOST_LINES)
    return (("letter", 0, 1),) if n == 1 else lines_by_blocks(n, sizes)


def does_tell_sum(n, circuit):
    return circuit_mask(n, circuit) == sum_mask(n)


def is_sum_circuit(n, sizes, value):
    need_sizes(n, sizes)
    if not has_circuit_form(n, value) or len(value) > lines_counted(n, sizes):
        return False
    return depth_of_circuit(value) <= (len(sizes) + 1 if n > 1 else 0) and does_tell_sum(n, value)


def fitting_sizes(n, levels):
    """The list of all sizes of so many levels that fit, ascending."""
    if levels == 0:
        return [()] if n == 1 else []
    if n == 1:
        return []
    found = []
    for size in range(2, MOST_SIZE + 1):
        found.extend([(size, *rest) for rest in fitting_sizes(rounded_up(n, size), levels - 1)])
    return found


def least_sizes(n, levels):
    """Sizes of so many levels that fit, with the least number of lines."""
    need_letters(n)
    need_number(levels, 0, MOST_LEVELS)
    found = fitting_sizes(n, levels)
    if not found:
        raise Refused(("none",))
    _, least = min([(lines_counted(n, sizes), sizes) for sizes in found])
    return least


def is_least_sizes(n, levels, value):
    need_letters(n)
    need_number(levels, 0, MOST_LEVELS)
    if not do_fit_letters(n, value) or len(value) != levels:
        return False
    return lines_counted(n, value) == min([lines_counted(n, sizes) for sizes in fitting_sizes(n, levels)])


def need_own_circuit(n, circuit):
    need_letters(n)
    need_circuit(n, circuit)


def tells_sum(n, circuit):
    """Whether the circuit tells the sum."""
    need_own_circuit(n, circuit)
    return does_tell_sum(n, circuit)


def gates_needed(n, circuit):
    """The number of gates of the circuit, pushed together, and the least one of such circuits."""
    need_own_circuit(n, circuit)
    if not does_tell_sum(n, circuit):
        raise Refused(("sum",))
    if n < 2 or depth_of_circuit(circuit) != 2:
        raise Refused(("depth",))
    gates = [line for line in small_pushed(circuit) if line[0] != "letter"]
    return (len(gates), (1 << (n - 1)) + 1)
