"""Bushes: letters told in them, nice ones, and how they shrink if the right letters are told."""

from deepcodes.checks import are_bits, is_bit, is_literal, is_tuple_of, need_bit, need_letter, need_n, told_by
from deepcodes.circuits.wrong import does_sum_to, wrong_end
from deepcodes.errors import InvalidFormula, InvalidOperation, Refused
from deepcodes.letters.masks import all_inputs, literal_masks, row_number, table_of_mask, term_mask
from deepcodes.powers import rounded_up
from deepcodes.told.restrictions import told_too

MOST_LEAVES = 128


def is_bush_of(n, value):
    """Whether the value is a bush of n letters."""
    parts = [value]
    gates = 0
    # A bush that has one part in many places is looked at no longer than until it has too many gates.
    while parts:
        part = parts.pop()
        if is_bit(part) or is_literal(n, part):
            continue
        if not is_tuple_of(part, 3) or part[0] not in ("and", "or"):
            return False
        gates += 1
        if gates >= MOST_LEAVES:
            return False
        parts.extend(part[1:])
    return True


def is_bush(n, value):
    need_n(n)
    return is_bush_of(n, value)


def need_bush(n, bush):
    need_n(n)
    if not is_bush_of(n, bush):
        raise InvalidFormula("this is no bush of the letters")


def is_leaf(bush):
    return is_tuple_of(bush, 2)


def is_gate(bush):
    return is_tuple_of(bush, 3)


def leaves_in(bush):
    """The list of the leaves, from the left."""
    if is_gate(bush):
        return leaves_in(bush[1]) + leaves_in(bush[2])
    return [bush] if is_leaf(bush) else []


def leaves(n, bush):
    """The leaves, as they stand."""
    need_bush(n, bush)
    return tuple(leaves_in(bush))


def bush_mask(bush, pairs, there):
    """The inputs of `there` at which the bush has the value 1; `pairs` are the masks of all literals."""
    if is_gate(bush):
        word, first, second = bush
        one = bush_mask(first, pairs, there)
        other = bush_mask(second, pairs, there)
        return one & other if word == "and" else one | other
    if is_leaf(bush):
        return pairs[bush[0]][bush[1]] & there
    return there if bush else 0


def mask_of_bush(n, bush):
    return bush_mask(bush, literal_masks(n), all_inputs(n))


def bush_table(n, bush):
    need_bush(n, bush)
    return table_of_mask(n, mask_of_bush(n, bush))


def made_gate(word, first, second):
    """The gate with these sides; if one of them is 0 or 1, what becomes of it."""
    # This value of a side leaves the other side, the other one is that of the gate.
    leaving = 1 if word == "and" else 0
    for side, other in ((first, second), (second, first)):
        if is_bit(side):
            return other if side == leaving else side
    return (word, first, second)


def told_bush(bush, letter, bit):
    """What is left of the bush if the letter is told."""
    if is_gate(bush):
        word, first, second = bush
        return made_gate(word, told_bush(first, letter, bit), told_bush(second, letter, bit))
    if is_leaf(bush) and bush[0] == letter:
        return int(bush[1] == bit)
    return bush


def told_letter(n, bush, letter, bit):
    """What is left of the bush if the letter is told the bit."""
    need_bush(n, bush)
    need_letter(n, letter)
    need_bit(bit)
    return told_bush(bush, letter, bit)


def has_letter(bush, letter):
    return any([leaf[0] == letter for leaf in leaves_in(bush)])


def does_repeat(side, other):
    """Whether the side is a leaf whose letter the other side has, too."""
    return is_leaf(side) and has_letter(other, side[0])


def is_cut_gate(gate):
    """Whether the bush can be cut at this gate."""
    _, first, second = gate
    return is_bit(first) or is_bit(second) or does_repeat(first, second) or does_repeat(second, first)


def cut_path(bush, path):
    """The path of a gate at which the bush can be cut, which itself stands at `path`; None if it is nice."""
    if not is_gate(bush):
        return None
    if is_cut_gate(bush):
        return path
    found = cut_path(bush[1], (*path, 0))
    return cut_path(bush[2], (*path, 1)) if found is None else found


def nice_answer(n, bush):
    """That the bush is nice, or the path of a gate at which it can be cut."""
    need_bush(n, bush)
    path = cut_path(bush, ())
    return ("nice",) if path is None else ("cut", path)


def is_nice_answer(n, bush, value):
    need_bush(n, bush)
    if value == ("nice",):
        return cut_path(bush, ()) is None
    path = told_by("cut", value)
    if not isinstance(path, tuple) or not all([is_bit(side) for side in path]):
        return False
    part = bush
    for side in path:
        if not is_gate(part):
            return False
        part = part[1 + side]
    return is_gate(part) and is_cut_gate(part)


def made_nice(bush):
    """A nice bush with the same table and at most as many leaves."""
    if not is_gate(bush):
        return bush
    word, first, second = bush
    return nice_gate(word, made_nice(first), made_nice(second))


def nice_gate(word, first, second):
    """The same for a gate whose sides are nice."""
    if does_repeat(first, second):
        return nice_gate(word, first, made_nice(asked_beside(word, first, second)))
    if does_repeat(second, first):
        return nice_gate(word, made_nice(asked_beside(word, second, first)), second)
    return made_gate(word, first, second)


def asked_beside(word, leaf, side):
    """What is left of a side beside a leaf, as it is asked only where the leaf does not tell the value."""
    letter, bit = leaf
    return told_bush(side, letter, bit if word == "and" else 1 - bit)


def nice_bush(n, bush):
    """A nice bush with the same table and at most as many leaves."""
    need_bush(n, bush)
    return made_nice(bush)


def leaves_taken(bush, letter, bit):
    return len(leaves_in(bush)) - len(leaves_in(told_bush(bush, letter, bit)))


def taken_by_letters(n, bush):
    """The list of the pairs of how many leaves each letter takes if it is told 0, told 1."""
    return [(leaves_taken(bush, letter, 0), leaves_taken(bush, letter, 1)) for letter in range(n)]


def best_of(n, bush):
    """The first setting that takes the most leaves."""
    pairs = taken_by_letters(n, bush)
    most = max([max(pair) for pair in pairs])
    return [(letter, bit) for letter, pair in enumerate(pairs) for bit in (0, 1) if pair[bit] == most][0]


def taken(n, bush):
    """For each letter the pair of how many leaves are taken if it is told 0, told 1."""
    need_bush(n, bush)
    if cut_path(bush, ()) is not None:
        raise InvalidOperation("the bush is not nice")
    return tuple(taken_by_letters(n, bush))


def best_setting(n, bush):
    """The first setting (letter, bit) that takes the most leaves."""
    need_bush(n, bush)
    if n == 0 or cut_path(bush, ()) is not None:
        raise InvalidOperation("there is no letter, or the bush is not nice")
    return best_of(n, bush)


def leaves_needed(n):
    """How many leaves a bush with the sum of n letters has at least."""
    least = min(n, 1)
    for letters in range(2, n + 1):
        least = rounded_up(2 * letters * least, 2 * letters - 3)
    return least


def least_leaves(n):
    """How many leaves a bush with the sum of n letters has at least, as it shrinks."""
    need_n(n)
    return leaves_needed(n)


def sum_and_opposite(first, many):
    """The told bushes of the sum of so many neighbouring letters from the first one on, and of its opposite."""
    if many == 0:
        return 0, 1
    if many == 1:
        return (first, 1), (first, 0)
    ahead = many // 2
    one, not_one = sum_and_opposite(first, ahead)
    other, not_other = sum_and_opposite(first + ahead, many - ahead)
    return (
        ("or", ("and", one, not_other), ("and", not_one, other)),
        ("or", ("and", one, other), ("and", not_one, not_other)),
    )


def sum_bush(n):
    """The told bush of the sum of all letters."""
    need_n(n)
    return sum_and_opposite(0, n)[0]


def led_answer(n, bush):
    """Literals by which the bush is led to one value, and an input that keeps them where this is not the sum."""
    need_bush(n, bush)
    least = leaves_needed(n)
    if len(leaves_in(bush)) >= least:
        raise Refused(("leaves", least))
    literals = []
    left = made_nice(bush)
    while not is_bit(left):
        # Told letters are in no leaf any more, so they take none and are not told again.
        letter, bit = best_of(n, left)
        literals.append((letter, bit))
        left = made_nice(told_bush(left, letter, bit))
    return (tuple(literals), wrong_end(told_too((2,) * n, literals), left))


def are_settings(n, value):
    """Whether the value is a tuple of literals of at most n - 1 letters, none twice."""
    if not isinstance(value, tuple) or len(value) >= n or not all([is_literal(n, literal) for literal in value]):
        return False
    return len(set([letter for letter, _ in value])) == len(value)


def is_led(n, bush, value):
    need_bush(n, bush)
    if not is_tuple_of(value, 2) or not are_settings(n, value[0]) or not are_bits(value[1], n):
        return False
    literals, row = value
    there = term_mask(n, literals)
    mask = mask_of_bush(n, bush) & there
    if mask not in (0, there) or not there >> row_number(row) & 1:
        return False
    return not does_sum_to(row, int(mask == there))
