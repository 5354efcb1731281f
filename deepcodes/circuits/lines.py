"""The lines of circuits and the gates of layers: their words, their depths and their values.

A *mask* is a set of inputs (letters/masks.py): here those at which something has the value 1.
"""

from deepcodes.letters.masks import all_inputs, coformula_mask, formula_mask, literal_masks

OTHER_WORDS = {"and": "or", "or": "and", "ands": "ors", "ors": "ands"}
# The word of the terms, or clauses, of the formulas of layers.
INNER_WORDS = {"ands": "and", "ors": "or"}


def gate_lot(line):
    """The lot of a line, none for a letter."""
    return () if line[0] == "letter" else line[1]


def line_depths(circuit):
    """The list of the depths of the lines."""
    depths = []
    for line in circuit:
        # A gate makes one of its own word no deeper, as both can be pushed together.
        below = [depths[at] + (0 if circuit[at][0] == line[0] else 1) for at in gate_lot(line)]
        depths.append(0 if line[0] == "letter" else max([1, *below]))
    return depths


def depth_of_circuit(circuit):
    return line_depths(circuit)[-1]


def gate_mask(n, word, masks):
    """The mask of a gate with this word over what has these masks."""
    found = all_inputs(n) if word == "and" else 0
    for mask in masks:
        found = found & mask if word == "and" else found | mask
    return found


def circuit_mask(n, circuit):
    pairs = literal_masks(n)
    masks = []
    for line in circuit:
        if line[0] == "letter":
            masks.append(pairs[line[1]][line[2]])
        else:
            masks.append(gate_mask(n, line[0], [masks[at] for at in line[1]]))
    return masks[-1]


def rounds_of(layers):
    return 1 + len(layers[2])


def layers_mask(n, layers):
    word, formulas, upper = layers
    masks = [formula_mask(n, part) if word == "ands" else coformula_mask(n, part) for part in formulas]
    gate_word = INNER_WORDS[word]
    for layer in upper:
        masks = [gate_mask(n, gate_word, [masks[at] for at in lot]) for lot in layer]
        gate_word = OTHER_WORDS[gate_word]
    return masks[0]
