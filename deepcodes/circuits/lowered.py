"""Layers led down round by round, or a round in which every restriction is charged to a gate."""

from math import comb

from deepcodes.canon.codes import deep_code
from deepcodes.checks import (
    has_code_form, is_just, is_number, is_tuple_of, need_any_restriction, need_depth, need_number, need_restriction,
    need_work
)
from deepcodes.circuits.circuits import need_layers
from deepcodes.circuits.lines import OTHER_WORDS, rounds_of
from deepcodes.errors import InvalidNumber, InvalidOperation, Refused, TooMany
from deepcodes.letters.terms import other_bits
from deepcodes.powers import power, rounded_up
from deepcodes.told.restrictions import all_behind, count_with, letters_free
from deepcodes.trees.growth import canonical_grown, is_deep_under, marks_of
from deepcodes.trees.trees import ways_to

MOST_CLAUSES = 64


def bottoms_of(layers):
    """The list of the bottoms of the gates: the formulas, or those with the other values of the coformulas."""
    word, formulas, _ = layers
    if word == "ands":
        return list(formulas)
    return [tuple([other_bits(clause) for clause in formula]) for formula in formulas]


def bottom_of(n, layers, gate):
    """The bottom of a gate."""
    need_layers(n, layers)
    need_number(gate, 0, len(layers[1]) - 1)
    return bottoms_of(layers)[gate]


def told_more(restriction, free):
    """All restrictions with so many free letters that tell all of this one, ascending."""
    need_any_restriction(restriction)
    need_number(free, 0, len(letters_free(restriction)))
    return tuple(all_behind(restriction, free))


def first_charge(bottoms, restriction, s):
    """The pair of the first deep gate and of its code, None if no gate is deep."""
    for gate, bottom in enumerate(bottoms):
        code = deep_code(restriction, bottom, s)
        if code is not None:
            return (gate, code)
    return None


def is_charge_of(bottoms, restriction, s, value):
    """Whether the value is a pair of a deep gate and of its code."""
    if not is_tuple_of(value, 2) or not is_number(value[0], 0, len(bottoms) - 1):
        return False
    gate, code = value
    return has_code_form(len(restriction), code) and code == deep_code(restriction, bottoms[gate], s)


def need_charged(n, layers, restriction, s):
    need_layers(n, layers)
    need_restriction(n, restriction)
    need_depth(s)


def charge_of(n, layers, restriction, s):
    """A deep gate and its code, None if no gate is deep."""
    need_charged(n, layers, restriction, s)
    return first_charge(bottoms_of(layers), restriction, s)


def is_charge(n, layers, restriction, s, value):
    need_charged(n, layers, restriction, s)
    bottoms = bottoms_of(layers)
    if value is None:
        return first_charge(bottoms, restriction, s) is None
    return is_charge_of(bottoms, restriction, s, value)


def each_once(clauses):
    """The clauses, each at its first place alone."""
    return tuple({clause: True for clause in clauses})


def lowered_by(layers, restriction):
    """The layers with a round less, for a restriction under which no gate is deep."""
    word, _, upper = layers
    parts = [ways_to(canonical_grown(restriction, bottom), 0) for bottom in bottoms_of(layers)]
    if word == "ands":
        parts = [[other_bits(literals) for literals in part] for part in parts]
    formulas = [each_once([clause for gate in lot for clause in parts[gate]]) for lot in upper[0]]
    if max([len(formula) for formula in formulas]) > MOST_CLAUSES:
        raise TooMany(MOST_CLAUSES)
    return (OTHER_WORDS[word], tuple(formulas), upper[1:])


def lowered(n, layers, restriction, s):
    """The layers with a round less."""
    need_charged(n, layers, restriction, s)
    if rounds_of(layers) == 1:
        raise Refused(("rounds",))
    charge = first_charge(bottoms_of(layers), restriction, s)
    if charge is not None:
        raise Refused(("deep", charge[0]))
    return lowered_by(layers, restriction)


def need_walk(n, layers, free, depths):
    need_layers(n, layers)
    rounds = rounds_of(layers)
    if not is_tuple_of(free, rounds) or not all([is_number(many, 0, n) for many in free]):
        raise InvalidOperation("these are no numbers of free letters, one for each round")
    if any([free[at] < free[at + 1] for at in range(rounds - 1)]):
        raise InvalidOperation("letters that are told would be free again")
    if not is_tuple_of(depths, rounds) or not all([is_number(depth, 1, 10) for depth in depths]):
        raise InvalidOperation("these are no depths, one for each round")


def first_good(bottoms, restrictions, s):
    """The first of the restrictions that makes no gate deep, None if there is none."""
    several = [marks_of(bottom) for bottom in bottoms]
    for restriction in restrictions:
        if not any([is_deep_under(marks, restriction, s) for marks in several]):
            return restriction
    return None


def walked(n, layers, free, depths):
    """The row of the restrictions taken, and the layers of the last round, or of the one that has no good one."""
    here = (2,) * n
    row = []
    for many, s in zip(free, depths):
        bottoms = bottoms_of(layers)
        need_work(count_with(len(letters_free(here)), many), sum([len(bottom) for bottom in bottoms]))
        good = first_good(bottoms, all_behind(here, many), s)
        if good is None:
            break
        here = good
        row.append(good)
        if len(row) < len(free):
            layers = lowered_by(layers, here)
    return tuple(row), layers


def tree_left(row, layers):
    """The tree behind the last round."""
    tree = canonical_grown(row[-1], bottoms_of(layers)[0])
    return tree if layers[0] == "ands" else other_ends(tree)


def other_ends(tree):
    if isinstance(tree, int):
        return 1 - tree
    letter, low, high = tree
    return (letter, other_ends(low), other_ends(high))


def looked_at(n, row, free):
    """The list of the restrictions of the round behind those taken."""
    return all_behind(row[-1] if row else (2,) * n, free[len(row)])


def walk(n, layers, free, depths):
    """The tree to which the layers are led, or the charges of all restrictions of a round."""
    need_walk(n, layers, free, depths)
    row, layers_left = walked(n, layers, free, depths)
    if len(row) == len(free):
        return ("tree", row, tree_left(row, layers_left))
    bottoms, s = bottoms_of(layers_left), depths[len(row)]
    return ("charged", row, tuple([first_charge(bottoms, one, s) for one in looked_at(n, row, free)]))


def is_walk(n, layers, free, depths, value):
    need_walk(n, layers, free, depths)
    row, layers_left = walked(n, layers, free, depths)
    if len(row) == len(free):
        return is_just(value, ("tree", row, tree_left(row, layers_left)))
    if not is_tuple_of(value, 3) or value[0] != "charged" or not is_just(value[1], row):
        return False
    restrictions = looked_at(n, row, free)
    if not is_tuple_of(value[2], len(restrictions)):
        return False
    bottoms, s = bottoms_of(layers_left), depths[len(row)]
    return all([is_charge_of(bottoms, one, s, charge) for one, charge in zip(restrictions, value[2])])


def gates_at_least(l, m, s, w):
    """How many gates there are at least if each of so many restrictions is charged."""
    for number in (l, m, s, w):
        need_number(number, 0, 10)
    if m > l:
        raise InvalidNumber(m)
    if s > m:
        raise InvalidNumber(s)
    if w == 0:
        raise InvalidNumber(w)
    codes = (comb(l, m - s) << (l - m + s)) * power(4 * w, s)
    return rounded_up(comb(l, m) << (l - m), codes)
