"""Circuits made of one another and of layers, and layers made of circuits."""

from deepcodes.checks import is_ascending
from deepcodes.circuits.lines import INNER_WORDS, OTHER_WORDS, gate_lot, line_depths


def pushed_lots(circuit):
    """For each line the ascending lot that it has once gates of one word are pushed together."""
    lots = []
    for line in circuit:
        members = []
        for at in gate_lot(line):
            members.extend(lots[at] if circuit[at][0] == line[0] else [at])
        lots.append(tuple(sorted(set(members))))
    return lots


def lines_needed(lots):
    """The ascending indices of the lines that the last one needs, itself among them."""
    needed = {len(lots) - 1: True}
    for at in range(len(lots) - 1, -1, -1):
        if at in needed:
            for member in lots[at]:
                needed[member] = True
    return sorted(needed)


def numbered_anew(circuit, lots):
    """The circuit of the needed lines, with these lots."""
    needed = lines_needed(lots)
    names = {at: name for name, at in enumerate(needed)}
    lines = []
    for at in needed:
        lot = tuple([names[member] for member in lots[at]])
        lines.append(circuit[at] if circuit[at][0] == "letter" else (circuit[at][0], lot))
    return tuple(lines)


def pushed_together(circuit):
    """The circuit pushed together; its lots can be too great."""
    return numbered_anew(circuit, pushed_lots(circuit))


def line_at(lines, line):
    """The index of a line among those of the dict, in which it is put if it is new."""
    if line not in lines:
        lines[line] = len(lines)
    return lines[line]


def gate_at(lines, word, members):
    """The index of a gate over these lines, which is the line itself if there is just one."""
    lot = tuple(sorted(set(members)))
    return lot[0] if len(lot) == 1 else line_at(lines, (word, lot))


def lines_of_layers(layers):
    """The circuit that has the value of the layers, each line once; it can have too many lines."""
    word, formulas, upper = layers
    inner = INNER_WORDS[word]
    outer = OTHER_WORDS[inner]
    lines = {}
    below = []
    for formula in formulas:
        terms = [[line_at(lines, ("letter", letter, bit)) for letter, bit in term] for term in formula]
        below.append(gate_at(lines, outer, [gate_at(lines, inner, term) for term in terms]))
    for layer in upper:
        below = [gate_at(lines, inner, [below[at] for at in lot]) for lot in layer]
        inner = OTHER_WORDS[inner]
    # What stands behind the last gate is not needed: where that gate is an elder line, it is the last one now.
    circuit = tuple(lines)[:below[0] + 1]
    return numbered_anew(circuit, [gate_lot(line) for line in circuit])


def levels_of(circuit):
    """The level of each line in layers, and the pair of the words of the gates at level 2, at level 3.

    A level has gates of one word, by turns from that of the last line down to level 2, which is
    that of the formulas. There stands what is at most 1 deep, too, as one literal, term or clause.
    """
    depths = line_depths(circuit)
    top = max(2, depths[-1])
    word = "or" if circuit[-1][0] == "letter" else circuit[-1][0]
    words = (word, OTHER_WORDS[word])
    if top & 1:
        words = (words[1], words[0])
    levels = []
    for line, depth in zip(circuit, depths):
        level = max(2, depth)
        levels.append(level if depth < 2 or words[level & 1] == line[0] else level + 1)
    return levels, words


def layers_from(circuit):
    """Layers with the table of a circuit that is pushed together, as many rounds as the last line's level less 1."""
    levels, words = levels_of(circuit)
    needed = [len(circuit) - 1]
    upper = []
    for level in range(levels[-1], 2, -1):
        lots = [circuit[at][1] if levels[at] == level else (at,) for at in needed]
        below = sorted(set([member for lot in lots for member in lot]))
        names = {at: name for name, at in enumerate(below)}
        upper.append(tuple([tuple([names[member] for member in lot]) for lot in lots]))
        needed = below
    word = "ands" if words[0] == "or" else "ors"
    return (word, tuple([formula_at(circuit, at, words[0]) for at in needed]), tuple(upper[::-1]))


def formula_at(circuit, at, word):
    """The formula, for the word "or", or coformula of a line that is low enough for one."""
    members = circuit[at][1] if circuit[at][0] == word else (at,)
    terms = [literals_at(circuit, member) for member in members]
    return tuple([term for term in terms if term is not None])


def literals_at(circuit, at):
    """The literals of a letter, or of a gate over letters; None if it has a letter with both bits."""
    lot = (at,) if circuit[at][0] == "letter" else circuit[at][1]
    literals = sorted(set([circuit[member][1:] for member in lot]))
    letters = [letter for letter, _ in literals]
    return tuple(literals) if is_ascending(letters) else None
