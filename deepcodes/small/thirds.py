"""Thirds: low polynomials modulo 3 that stand in for circuits, and the inputs that they are charged for."""

from math import comb

from deepcodes.checks import (
    are_bits, are_letters, is_just, is_number, is_tuple_of, need_depth, need_n, need_number, told_by
)
from deepcodes.circuits.circuits import MOST_LINES, is_line, is_lot, is_many
from deepcodes.circuits.lines import gate_lot, gate_mask
from deepcodes.errors import InvalidCircuit, InvalidOperation, TooMany
from deepcodes.letters.masks import all_inputs, first_row, literal_masks, row_at, row_number, sum_mask, table_of_mask
from deepcodes.letters.rows import table_of_sum
from deepcodes.powers import power
from deepcodes.small.residues import added, degree_by, lowered_row, polynomial_by, row_by, size_of, zero_sums

MOST_ROUNDS = 4
MOST_STEPS = 60000
GATE_WORDS = ("and", "or")


def is_row_of(n, value):
    return is_tuple_of(value, 1 << n) and all([is_number(number, 0, 2) for number in value])


def is_polynomial_of(n, value):
    if not isinstance(value, dict):
        return False
    return all([are_letters(n, lot) and is_number(value[lot], 1, 2) for lot in value])


def is_polynomial(n, value):
    need_n(n)
    return is_polynomial_of(n, value)


def need_row_of(n, row):
    if not is_row_of(n, row):
        raise InvalidOperation("this is no row of numbers 0, 1 and 2")


def need_polynomial(n, polynomial):
    need_n(n)
    if not is_polynomial_of(n, polynomial):
        raise InvalidOperation("this is no polynomial of the letters")


def polynomial_of(n, row):
    """The polynomial that has these values."""
    need_n(n)
    need_row_of(n, row)
    return polynomial_by(row)


def row_of(n, polynomial):
    """The values of a polynomial."""
    need_polynomial(n, polynomial)
    return tuple(row_by(n, polynomial))


def degree_of(n, polynomial):
    """The most letters of a tuple, 0 without any."""
    need_polynomial(n, polynomial)
    return degree_by(polynomial)


def agreeing_numbers(n, polynomial):
    """The numbers of the inputs at which the polynomial is the sum."""
    odd = table_of_sum(n)
    return [number for number, value in enumerate(row_by(n, polynomial)) if value == odd[number]]


def agreeing(n, polynomial):
    """The inputs at which the polynomial is the sum, by numbers."""
    need_polynomial(n, polynomial)
    return tuple([row_at(n, number) for number in agreeing_numbers(n, polynomial)])


def most_agreeing(n, degree):
    """How many lots have at most so many letters as the half of n and of the degree."""
    need_n(n)
    need_depth(degree)
    return sum([comb(n, size) for size in range(min(n, (n + degree) // 2) + 1)])


def need_polynomial_and_row(n, polynomial, row):
    need_polynomial(n, polynomial)
    need_row_of(n, row)


def low_polynomial(n, polynomial, row):
    """A polynomial of low degree that has the values of the row wherever the other one is the sum."""
    need_polynomial_and_row(n, polynomial, row)
    most = (n + degree_by(polynomial)) // 2
    return polynomial_by(lowered_row(n, row, row_by(n, polynomial), most))


def is_low_polynomial(n, polynomial, row, value):
    need_polynomial_and_row(n, polynomial, row)
    if not is_polynomial_of(n, value) or degree_by(value) > (n + degree_by(polynomial)) // 2:
        return False
    values = row_by(n, value)
    return all([values[number] == row[number] for number in agreeing_numbers(n, polynomial)])


def is_third_line(n, elder, value):
    """Whether the value is a line of a circuit with thirds, behind so many elder ones."""
    if is_tuple_of(value, 2) and value[0] == "thirds":
        return is_lot(elder, value[1])
    return is_line(n, elder, value)


def has_thirds_form(n, value):
    return is_many(value, MOST_LINES) and all([is_third_line(n, at, line) for at, line in enumerate(value)])


def is_circuit(n, value):
    need_n(n)
    return has_thirds_form(n, value)


def need_thirds(n, circuit):
    need_n(n)
    if not has_thirds_form(n, circuit):
        raise InvalidCircuit("this is no circuit of the letters")


def need_few_steps(n, circuit):
    steps = len(circuit) + sum([len(gate_lot(line)) for line in circuit])
    if steps << n > MOST_STEPS:
        raise TooMany(MOST_STEPS)


def are_factors(circuit, rounds, value):
    """Whether the value has so many tuples for each gate, and none for the other lines."""
    if not is_tuple_of(value, len(circuit)):
        return False
    return all([are_line_factors(line, rounds, some) for line, some in zip(circuit, value)])


def are_line_factors(line, rounds, value):
    if line[0] not in GATE_WORDS:
        return is_tuple_of(value, 0)
    if not is_tuple_of(value, rounds):
        return False
    size = len(line[1])
    return all([is_tuple_of(some, size) and all([is_number(one, 0, 2) for one in some]) for some in value])


def need_factors(n, circuit, factors):
    need_thirds(n, circuit)
    if not any([are_factors(circuit, rounds, factors) for rounds in range(1, MOST_ROUNDS + 1)]):
        raise InvalidOperation("these are no factors of the circuit")
    need_few_steps(n, circuit)


def simple_mask(n, pairs, line, masks):
    """Where a letter, or thirds over what has these masks, has the value 1."""
    if line[0] == "letter":
        return pairs[line[1]][line[2]]
    there = all_inputs(n)
    return there & ~zero_sums(there, masks, [1] * len(masks))


def value_masks(n, circuit):
    """The list of the inputs at which each line has the value 1."""
    pairs = literal_masks(n)
    found = []
    for line in circuit:
        masks = [found[at] for at in gate_lot(line)]
        is_gate = line[0] in GATE_WORDS
        found.append(gate_mask(n, line[0], masks) if is_gate else simple_mask(n, pairs, line, masks))
    return found


def as_ors(n, word, masks):
    """The masks over which the gate is an or: for an and the opposite ones, over which it has the opposite value."""
    return list(masks) if word == "or" else [all_inputs(n) & ~mask for mask in masks]


def doubtful_at(masks):
    """Where some of the masks of an or have the value 1."""
    found = 0
    for mask in masks:
        found |= mask
    return found


def missed_at(masks, tuples):
    """The doubtful inputs at which each tuple makes the sum 0, so that the polynomial of an or is 0, not 1."""
    missed = doubtful_at(masks)
    for numbers in tuples:
        missed = zero_sums(missed, masks, numbers)
    return missed


def stand_ins(n, circuit, factors):
    """For each line the inputs at which its polynomial is 1, those that are charged, and those that are doubtful."""
    pairs = literal_masks(n)
    found = []
    for line, tuples in zip(circuit, factors):
        masks = [found[at][0] for at in gate_lot(line)]
        if line[0] in GATE_WORDS:
            ors = as_ors(n, line[0], masks)
            missed = missed_at(ors, tuples)
            # Of an or the polynomial is never 1 by mistake, of an and never 0: it is wrong just where it misses.
            found.append((gate_mask(n, line[0], masks) ^ missed, missed, doubtful_at(ors)))
        else:
            found.append((simple_mask(n, pairs, line, masks), 0, 0))
    return found


def table_of(n, circuit):
    need_thirds(n, circuit)
    need_few_steps(n, circuit)
    return table_of_mask(n, value_masks(n, circuit)[-1])


def chosen_tuple(masks, missed):
    """A tuple of numbers, and those of the missed inputs at which it makes the sum 0: a third of them at most."""
    numbers = []
    classes = (missed, 0, 0)
    for at, mask in enumerate(masks):
        # Where no later number counts, the sum is known with this one; elsewhere a third of the rest goes wrong.
        last = mask & ~doubtful_at(masks[at + 1:])
        lost = [size_of(classes[-factor % 3] & last) for factor in range(3)]
        number = lost.index(min(lost))
        numbers.append(number)
        classes = added(classes, mask, number)
    return tuple(numbers), classes[0]


def chosen_tuples(masks, rounds):
    """So many tuples for an or over these masks, each right at two thirds of what the ones ahead miss."""
    missed = doubtful_at(masks)
    tuples = []
    for _ in range(rounds):
        numbers, missed = chosen_tuple(masks, missed)
        tuples.append(numbers)
    return tuple(tuples)


def need_rounds(n, circuit, rounds):
    need_thirds(n, circuit)
    need_number(rounds, 1, MOST_ROUNDS)
    need_few_steps(n, circuit)


def good_factors(n, circuit, rounds):
    """Factors of so many tuples, with which few inputs are charged at each line."""
    need_rounds(n, circuit, rounds)
    pairs = literal_masks(n)
    found = []
    factors = []
    for line in circuit:
        masks = [found[at] for at in gate_lot(line)]
        if line[0] in GATE_WORDS:
            ors = as_ors(n, line[0], masks)
            factors.append(chosen_tuples(ors, rounds))
            found.append(gate_mask(n, line[0], masks) ^ missed_at(ors, factors[-1]))
        else:
            factors.append(())
            found.append(simple_mask(n, pairs, line, masks))
    return tuple(factors)


def are_good(n, circuit, rounds, value):
    need_rounds(n, circuit, rounds)
    if not are_factors(circuit, rounds, value):
        return False
    share = power(3, rounds)
    lines = stand_ins(n, circuit, value)
    return all([size_of(missed) * share <= size_of(doubtful) for _, missed, doubtful in lines])


def polynomials(n, circuit, factors):
    """For each line its polynomial."""
    need_factors(n, circuit, factors)
    return tuple([polynomial_by(table_of_mask(n, mask)) for mask, _, _ in stand_ins(n, circuit, factors)])


def charged(n, circuit, factors):
    """For each line its charged inputs, by numbers."""
    need_factors(n, circuit, factors)
    masks = [missed for _, missed, _ in stand_ins(n, circuit, factors)]
    return tuple([
        tuple([row_at(n, number) for number in range(mask.bit_length()) if mask >> number & 1]) for mask in masks
    ])


def charged_numbers(n, circuit, factors):
    """How many inputs are charged to each line."""
    return tuple([size_of(missed) for _, missed, _ in stand_ins(n, circuit, factors)])


def wrong_mask(n, circuit):
    """The inputs at which the circuit is not the sum."""
    return value_masks(n, circuit)[-1] ^ sum_mask(n)


def sum_answer(n, circuit, factors):
    """An input at which the circuit is not the sum; else how many inputs are charged to each line."""
    need_factors(n, circuit, factors)
    wrong = wrong_mask(n, circuit)
    return ("input", first_row(n, wrong)) if wrong else ("charged", charged_numbers(n, circuit, factors))


def is_sum_answer(n, circuit, factors, value):
    need_factors(n, circuit, factors)
    wrong = wrong_mask(n, circuit)
    row = told_by("input", value)
    if are_bits(row, n):
        return (wrong >> row_number(row) & 1) == 1
    return wrong == 0 and is_just(value, ("charged", charged_numbers(n, circuit, factors)))
