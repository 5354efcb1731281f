"""The true one of a claim and its opposite, with a paper that the checker takes."""

from deepcodes.canon.codes import deep_code
from deepcodes.canon.switched import width_answer
from deepcodes.checks import need_work
from deepcodes.circuits.lines import circuit_mask
from deepcodes.circuits.lowered import bottoms_of, first_charge, lowered_by, tree_left
from deepcodes.judge.judge import need_claim
from deepcodes.letters.masks import first_row, sum_mask
from deepcodes.sums.blocks import does_tell_sum
from deepcodes.told.restrictions import all_behind, count_with, letters_free, restrictions_with
from deepcodes.trees.growth import canonical_grown
from deepcodes.trees.least import least_answer


def canon_told(claim):
    _, restriction, formula, s = claim
    code = deep_code(restriction, formula, s)
    return ("low", canonical_grown(restriction, formula)) if code is None else ("deep", code)


def count_told(claim):
    _, n, formula, free, s = claim
    codes = []
    for restriction in restrictions_with(n, free):
        code = deep_code(restriction, formula, s)
        if code is None:
            return ("some", (restriction, canonical_grown(restriction, formula)))
        codes.append(code)
    return ("none", tuple(codes))


def table_told(claim):
    _, table, depth = claim
    word, paper = least_answer(table, depth)
    return ("asked" if word == "tree" else "open", paper)


def width_told(claim):
    _, table, bit, width = claim
    word, paper = width_answer(table, width, bit)
    return ("narrow" if word == "terms" else "wide", paper)


def charges_ahead(bottoms, restrictions, s):
    """The list of the charges of the restrictions ahead of the first good one, or of all of them."""
    charges = []
    for restriction in restrictions:
        charge = first_charge(bottoms, restriction, s)
        if charge is None:
            break
        charges.append(charge)
    return charges


def walk_told(claim):
    """The rounds, and the tree that is left, or the charges of a round in which all restrictions have one."""
    _, n, layers, free, depths = claim
    here = (2,) * n
    rounds = []
    for many, s in zip(free, depths):
        bottoms = bottoms_of(layers)
        need_work(count_with(len(letters_free(here)), many), sum([len(bottom) for bottom in bottoms]))
        restrictions = all_behind(here, many)
        charges = charges_ahead(bottoms, restrictions, s)
        if len(charges) == len(restrictions):
            return ("stuck", (tuple(rounds), tuple(charges)))
        here = restrictions[len(charges)]
        rounds.append((tuple(charges), here))
        if len(rounds) < len(free):
            layers = lowered_by(layers, here)
    return ("led", (tuple(rounds), tree_left((here,), layers)))


def sum_told(claim):
    _, n, circuit = claim
    if does_tell_sum(n, circuit):
        return ("sums", ())
    return ("errs", first_row(n, circuit_mask(n, circuit) ^ sum_mask(n)))


TOLD = {
    "low": canon_told, "deep": canon_told, "some": count_told, "none": count_told, "asked": table_told,
    "open": table_told, "narrow": width_told, "wide": width_told, "led": walk_told, "stuck": walk_told,
    "sums": sum_told, "errs": sum_told
}


def answered(claim):
    """The pair of the true one of the claim and its opposite, and of a paper for it."""
    need_claim(claim)
    tell = TOLD[claim[0]]
    word, paper = tell(claim)
    return ((word, *claim[1:]), paper)
