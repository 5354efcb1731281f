"""The words of the document once more, as plainly and slowly as they can be told, to compare with."""

import itertools
import random


def inputs(n):
    return [tuple(reversed(bits)) for bits in itertools.product((0, 1), repeat=n)]


def restrictions(n):
    return [tuple(reversed(members)) for members in itertools.product((0, 1, 2), repeat=n)]


def tables(n):
    return list(itertools.product((0, 1), repeat=2 ** n))


def number_of(row):
    return sum(bit * 2 ** at for at, bit in enumerate(row))


def value(table, row):
    return table[number_of(row)]


def table_by(n, told):
    return tuple(int(told(row)) for row in inputs(n))


def turned(row, letter):
    return tuple(1 - bit if at == letter else bit for at, bit in enumerate(row))


def terms(n):
    found = []
    for members in itertools.product((0, 1, 2), repeat=n):
        found.append(tuple((letter, bit) for letter, bit in enumerate(members) if bit != 2))
    return sorted(found)


def keeps(row, term):
    return all(row[letter] == bit for letter, bit in term)


def formula_value(formula, row):
    return int(any(keeps(row, term) for term in formula))


def coformula_value(formula, row):
    return int(all(any(row[letter] == bit for letter, bit in clause) for clause in formula))


def formula_table(n, formula):
    return table_by(n, lambda row: formula_value(formula, row))


def width(formula):
    return max([0] + [len(term) for term in formula])


def random_term(chance, n, size):
    return tuple((letter, chance.randrange(2)) for letter in sorted(chance.sample(range(n), size)))


def random_formula(chance, n, most=4):
    """Some terms; those without literals hide all behind them, so they come seldom."""
    sizes = [chance.randint(min(1, n), n) for _ in range(chance.randint(0, most))]
    return tuple(random_term(chance, n, 0 if chance.random() < 0.04 else size) for size in sizes)


def some_formulas(n, many, seed=1):
    chance = random.Random(seed * 100 + n)
    fixed = [(), ((),)]
    return fixed + [random_formula(chance, n) for _ in range(many)]


def random_tree(chance, letters, share=0.2):
    if not letters or chance.random() < share:
        return chance.randrange(2)
    letter = chance.choice(letters)
    rest = [other for other in letters if other != letter]
    return (letter, random_tree(chance, rest, share), random_tree(chance, rest, share))


def fits(row, restriction):
    return all(member in (2, bit) for bit, member in zip(row, restriction))


def fitting(restriction):
    return [row for row in inputs(len(restriction)) if fits(row, restriction)]


def free(restriction):
    return [letter for letter, member in enumerate(restriction) if member == 2]


def told(restriction, literals):
    members = list(restriction)
    for letter, bit in literals:
        members[letter] = bit
    return tuple(members)


def table_under(table, restriction):
    return tuple(value(table, row) for row in fitting(restriction))


def is_false(restriction, term):
    return any(restriction[letter] == 1 - bit for letter, bit in term)


def left(restriction, term):
    return tuple((letter, bit) for letter, bit in term if restriction[letter] == 2)


def tree_value(tree, row):
    while isinstance(tree, tuple):
        tree = tree[2] if row[tree[0]] else tree[1]
    return tree


def depth(tree):
    return 1 + max(depth(tree[1]), depth(tree[2])) if isinstance(tree, tuple) else 0


def ways(tree, ahead=()):
    if not isinstance(tree, tuple):
        return [(ahead, tree)]
    return ways(tree[1], ahead + ((tree[0], 0),)) + ways(tree[2], ahead + ((tree[0], 1),))


def trees(letters, most):
    """All trees of these letters that are at most so deep."""
    found = [0, 1]
    if most:
        for letter in letters:
            sides = trees([other for other in letters if other != letter], most - 1)
            found += [(letter, low, high) for low in sides for high in sides]
    return found


def least_depth(table, known={}):
    if len(set(table)) < 2:
        return 0
    if table not in known:
        n = len(table).bit_length() - 1
        pairs = []
        for letter in range(n):
            pairs.append([table_under(table, told((2,) * n, [(letter, bit)])) for bit in (0, 1)])
        known[table] = 1 + min(max(least_depth(low), least_depth(high)) for low, high in pairs)
    return known[table]


def canonical(restriction, formula):
    for term in formula:
        if not is_false(restriction, term):
            letters = [letter for letter, _ in left(restriction, term)]
            return asking(letters, restriction, formula) if letters else 1
    return 0


def asking(letters, restriction, formula):
    if not letters:
        return canonical(restriction, formula)
    low, high = [asking(letters[1:], told(restriction, [(letters[0], bit)]), formula) for bit in (0, 1)]
    return (letters[0], low, high)


def beginnings(restriction, formula):
    found = set()
    for literals, _ in ways(canonical(restriction, formula)):
        found.update(literals[:many] for many in range(len(literals) + 1))
    return sorted(found)


def deep_row(restriction, formula, s):
    rows = [row for row in beginnings(restriction, formula) if len(row) == s]
    return min(rows) if rows else None


def pieces(restriction, formula, literals):
    found = []
    while literals:
        index, term = [(i, term) for i, term in enumerate(formula) if not is_false(restriction, term)][0]
        asked = left(restriction, term)[:len(literals)]
        found.append((index, asked))
        restriction = told(restriction, literals[:len(asked)])
        literals = literals[len(asked):]
    return tuple(found)


def code(restriction, formula, literals):
    first, triples = restriction, []
    answers = dict(literals)
    for index, asked in pieces(restriction, formula, literals):
        first = told(first, asked)
        for literal in asked:
            place = formula[index].index(literal)
            triples.append((place, answers[literal[0]], int(literal == asked[-1])))
    return (first, tuple(triples))


def led_back(formula, code):
    """The pair of the restriction and of the terms taken, or None."""
    first, triples = code
    here, found, taken = list(first), [], []
    rest = list(triples)
    while rest:
        able = [index for index, term in enumerate(formula) if not is_false(here, term)]
        if not able:
            return None
        taken.append(able[0])
        while rest:
            place, answer, end = rest.pop(0)
            if place >= len(formula[able[0]]):
                return None
            letter = formula[able[0]][place][0]
            if first[letter] == 2 or letter in found:
                return None
            found.append(letter)
            here[letter] = answer
            if end:
                break
    return told(first, [(letter, 2) for letter in found]), tuple(taken)
