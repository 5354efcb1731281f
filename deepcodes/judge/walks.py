"""Rounds in which layers are led down: restrictions, charges, and the layers that are left."""

from deepcodes.judge.canon import canonical_below, depth_of, is_along
from deepcodes.judge.forms import is_just, is_number, is_tuple_of

MOST_CLAUSES = 64


def all_behind(here, free):
    """The list of the restrictions with so many free letters that tell what this one tells, by numbers."""
    if not here:
        return [()] if free == 0 else []
    *ahead, last = here
    told = all_behind(ahead, free)
    if last != 2:
        return [(*members, last) for members in told]
    not_told = all_behind(ahead, free - 1) if free > 0 else []
    # The last letter counts most.
    return [(*members, bit) for bit in (0, 1) for members in told] + [(*members, 2) for members in not_told]


def other_bits(literals):
    return tuple([(letter, 1 - bit) for letter, bit in literals])


def bottoms_of(layers):
    """The list of the bottoms of the gates."""
    word, formulas, _ = layers
    if word == "ands":
        return list(formulas)
    return [tuple([other_bits(clause) for clause in formula]) for formula in formulas]


def is_good(bottoms, restriction, s):
    """Whether the canonical trees of all bottoms are less than s deep."""
    for bottom in bottoms:
        if depth_of(canonical_below(restriction, bottom)) >= s:
            return False
    return True


def is_charge(bottoms, restriction, s, value):
    """Whether the value is a pair of a gate and of the code along s literals of a way of its canonical tree."""
    if not is_tuple_of(value, 2) or not is_number(value[0], 0, len(bottoms) - 1):
        return False
    gate, code = value
    return is_along(restriction, bottoms[gate], s, code)


def are_charges(bottoms, restrictions, s, value):
    """Whether the value has a charge of each restriction."""
    if not is_tuple_of(value, len(restrictions)):
        return False
    return all([is_charge(bottoms, restriction, s, one) for restriction, one in zip(restrictions, value)])


def zero_ways(tree, literals):
    """The list of the literals of the ways that end with 0, ways ascending, each way's letters ascending."""
    if isinstance(tree, int):
        return [] if tree else [tuple(sorted(literals))]
    letter, low, high = tree
    return zero_ways(low, (*literals, (letter, 0))) + zero_ways(high, (*literals, (letter, 1)))


def lowered(layers, restriction):
    """The layers with a round less, None if a lot would have too many clauses."""
    word, _, upper = layers
    parts = [zero_ways(canonical_below(restriction, bottom), ()) for bottom in bottoms_of(layers)]
    if word == "ands":
        parts = [[other_bits(literals) for literals in part] for part in parts]
    formulas = []
    for lot in upper[0]:
        # Each clause once, at its first place.
        clauses = {clause: True for gate in lot for clause in parts[gate]}
        if len(clauses) > MOST_CLAUSES:
            return None
        formulas.append(tuple(clauses))
    return ("ors" if word == "ands" else "ands", tuple(formulas), upper[1:])


def is_round(layers, restrictions, s, value):
    """Whether the value is a pair of charges of all restrictions ahead of a good one, and of this one."""
    if not is_tuple_of(value, 2) or not isinstance(value[0], tuple) or len(value[0]) >= len(restrictions):
        return False
    charges, taken = value
    many = len(charges)
    bottoms = bottoms_of(layers)
    if not is_just(taken, restrictions[many]) or not are_charges(bottoms, restrictions[:many], s, charges):
        return False
    return is_good(bottoms, restrictions[many], s)


def behind_rounds(n, layers, free, depths, rounds):
    """The pair of the restriction taken last and of the layers that are left, None if a round is not right.

    Behind the round of the last number nothing is lowered.
    """
    here = (2,) * n
    for at, one in enumerate(rounds):
        if not is_round(layers, all_behind(here, free[at]), depths[at], one):
            return None
        here = one[1]
        if at + 1 < len(free):
            layers = lowered(layers, here)
            if layers is None:
                return None
    return here, layers


def does_lead(n, layers, free, depths, paper):
    """Whether the paper leads the layers through all rounds to the tree that is left."""
    if not is_tuple_of(paper, 2) or not is_tuple_of(paper[0], len(free)):
        return False
    rounds, tree = paper
    found = behind_rounds(n, layers, free, depths, rounds)
    if found is None:
        return False
    here, last = found
    left = canonical_below(here, bottoms_of(last)[0])
    return is_just(tree, left if last[0] == "ands" else other_ends(left))


def other_ends(tree):
    if isinstance(tree, int):
        return 1 - tree
    letter, low, high = tree
    return (letter, other_ends(low), other_ends(high))


def does_bar(n, layers, free, depths, paper):
    """Whether the paper leads the layers to a round in which every restriction is charged."""
    if not is_tuple_of(paper, 2) or not isinstance(paper[0], tuple) or len(paper[0]) >= len(free):
        return False
    rounds, charges = paper
    found = behind_rounds(n, layers, free, depths, rounds)
    if found is None:
        return False
    here, last = found
    at = len(rounds)
    return are_charges(bottoms_of(last), all_behind(here, free[at]), depths[at], charges)
