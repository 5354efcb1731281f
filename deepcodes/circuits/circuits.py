"""Circuits and layers: their forms, values and depths, and how they turn into one another."""

from deepcodes.checks import are_letters, is_bit, is_formula_of, is_letter, is_tuple_of, need_n, need_row
from deepcodes.circuits.lines import (
    OTHER_WORDS, circuit_mask, depth_of_circuit, gate_lot, layers_mask, rounds_of
)
from deepcodes.circuits.making import layers_from, lines_of_layers, pushed_together
from deepcodes.errors import InvalidCircuit, TooMany
from deepcodes.letters.masks import row_number, table_of_mask

MOST_LINES = 120
MOST_LOT = 64
MOST_GATES = 60
MOST_LAYERS = 6
MOST_DEPTH = 8


def is_many(value, most):
    """Whether the value is a tuple of at least one member and at most so many."""
    return isinstance(value, tuple) and 1 <= len(value) <= most


def is_lot(many, value):
    """Whether the value is an ascending tuple of at most 64 indices, of so many that there are."""
    # Like letters of the n ones, these are ascending numbers below another one.
    return isinstance(value, tuple) and len(value) <= MOST_LOT and are_letters(many, value)


def is_line(n, elder, value):
    """Whether the value is a line of a circuit behind so many elder ones."""
    if is_tuple_of(value, 3):
        return value[0] == "letter" and is_letter(n, value[1]) and is_bit(value[2])
    return is_tuple_of(value, 2) and value[0] in ("and", "or") and is_lot(elder, value[1])


def has_circuit_form(n, value):
    return is_many(value, MOST_LINES) and all([is_line(n, at, line) for at, line in enumerate(value)])


def have_layers_form(n, value):
    if not is_tuple_of(value, 3) or value[0] not in ("ands", "ors"):
        return False
    _, formulas, upper = value
    if not is_many(formulas, MOST_GATES) or not all([is_formula_of(n, formula) for formula in formulas]):
        return False
    if not isinstance(upper, tuple) or len(upper) > MOST_LAYERS:
        return False
    many = len(formulas)
    for layer in upper:
        if not is_many(layer, MOST_GATES) or not all([is_lot(many, lot) for lot in layer]):
            return False
        many = len(layer)
    return many == 1


def is_circuit(n, value):
    need_n(n)
    return has_circuit_form(n, value)


def are_layers(n, value):
    need_n(n)
    return have_layers_form(n, value)


def need_circuit(n, circuit):
    need_n(n)
    if not has_circuit_form(n, circuit):
        raise InvalidCircuit("this is no circuit of the letters")


def need_layers(n, layers):
    need_n(n)
    if not have_layers_form(n, layers):
        raise InvalidCircuit("these are no layers of the letters")


def circuit_value(n, circuit, row):
    """The value of a circuit at an input."""
    need_circuit(n, circuit)
    need_row(n, row)
    return circuit_mask(n, circuit) >> row_number(row) & 1


def circuit_table(n, circuit):
    need_circuit(n, circuit)
    return table_of_mask(n, circuit_mask(n, circuit))


def circuit_depth(n, circuit):
    """The depth of the last line."""
    need_circuit(n, circuit)
    return depth_of_circuit(circuit)


def not_of_line(line):
    if line[0] == "letter":
        return ("letter", line[1], 1 - line[2])
    return (OTHER_WORDS[line[0]], line[1])


def not_of(n, circuit):
    """The circuit each line of which has the other value."""
    need_circuit(n, circuit)
    return tuple([not_of_line(line) for line in circuit])


def small_pushed(circuit):
    """The circuit pushed together, if no lot is too great."""
    together = pushed_together(circuit)
    if max([len(gate_lot(line)) for line in together]) > MOST_LOT:
        raise TooMany(MOST_LOT)
    return together


def pushed(n, circuit):
    """The circuit of the needed lines, in which no gate has one of its own word in its lot."""
    need_circuit(n, circuit)
    return small_pushed(circuit)


def layers_value(n, layers, row):
    """The value of layers at an input."""
    need_layers(n, layers)
    need_row(n, row)
    return layers_mask(n, layers) >> row_number(row) & 1


def layers_table(n, layers):
    need_layers(n, layers)
    return table_of_mask(n, layers_mask(n, layers))


def need_low(circuit):
    if depth_of_circuit(circuit) > MOST_DEPTH:
        raise TooMany(MOST_DEPTH)


def layers_of(n, circuit):
    """Layers with the circuit's table, with as many rounds as its depth less 1, at least 1."""
    need_circuit(n, circuit)
    together = small_pushed(circuit)
    need_low(together)
    if len(together) > MOST_GATES:
        raise TooMany(MOST_GATES)
    return layers_from(together)


def are_layers_of(n, circuit, value):
    need_circuit(n, circuit)
    need_low(circuit)
    if not have_layers_form(n, value) or rounds_of(value) != max(1, depth_of_circuit(circuit) - 1):
        return False
    return layers_mask(n, value) == circuit_mask(n, circuit)


def circuit_of(n, layers):
    """A circuit with the table of the layers, at most one deeper than their rounds."""
    need_layers(n, layers)
    circuit = lines_of_layers(layers)
    if len(circuit) > MOST_LINES:
        raise TooMany(MOST_LINES)
    return circuit


def is_circuit_of(n, layers, value):
    need_layers(n, layers)
    if not has_circuit_form(n, value) or depth_of_circuit(value) > 1 + rounds_of(layers):
        return False
    return circuit_mask(n, value) == layers_mask(n, layers)
