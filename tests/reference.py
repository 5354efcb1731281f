"""The words of the document once more, as plainly and slowly as they can be told, to compare with."""

import itertools
import random


def inputs(n):
    return [tuple(reversed(bits)) for bits in itertools.product((0, 1), repeat=n)]


def restrictions(n):
    return [tuple(reversed(members)) for members in itertools.product((0, 1, 2), repeat=n)]


def tables(n):
    return list(itertools.product((0, 1), repeat=2 ** n))


def number_of(row):
    return sum(bit * 2 ** at for at, bit in enumerate(row))


def value(table, row):
    return table[number_of(row)]


def table_by(n, told):
    return tuple(int(told(row)) for row in inputs(n))


def turned(row, letter):
    return tuple(1 - bit if at == letter else bit for at, bit in enumerate(row))


def terms(n):
    found = []
    for members in itertools.product((0, 1, 2), repeat=n):
        found.append(tuple((letter, bit) for letter, bit in enumerate(members) if bit != 2))
    return sorted(found)


def keeps(row, term):
    return all(row[letter] == bit for letter, bit in term)


def formula_value(formula, row):
    return int(any(keeps(row, term) for term in formula))


def coformula_value(formula, row):
    return int(all(any(row[letter] == bit for letter, bit in clause) for clause in formula))


def formula_table(n, formula):
    return table_by(n, lambda row: formula_value(formula, row))


def width(formula):
    return max([0] + [len(term) for term in formula])


def random_term(chance, n, size):
    return tuple((letter, chance.randrange(2)) for letter in sorted(chance.sample(range(n), size)))


def random_formula(chance, n, most=4):
    """Some terms; those without literals hide all behind them, so they come seldom."""
    sizes = [chance.randint(min(1, n), n) for _ in range(chance.randint(0, most))]
    return tuple(random_term(chance, n, 0 if chance.random() < 0.04 else size) for size in sizes)


def some_formulas(n, many, seed=1):
    chance = random.Random(seed * 100 + n)
    fixed = [(), ((),)]
    return fixed + [random_formula(chance, n) for _ in range(many)]


def random_tree(chance, letters, share=0.2):
    if not letters or chance.random() < share:
        return chance.randrange(2)
    letter = chance.choice(letters)
    rest = [other for other in letters if other != letter]
    return (letter, random_tree(chance, rest, share), random_tree(chance, rest, share))


def fits(row, restriction):
    return all(member in (2, bit) for bit, member in zip(row, restriction))


def fitting(restriction):
    return [row for row in inputs(len(restriction)) if fits(row, restriction)]


def free(restriction):
    return [letter for letter, member in enumerate(restriction) if member == 2]


def told(restriction, literals):
    members = list(restriction)
    for letter, bit in literals:
        members[letter] = bit
    return tuple(members)


def table_under(table, restriction):
    return tuple(value(table, row) for row in fitting(restriction))


def is_false(restriction, term):
    return any(restriction[letter] == 1 - bit for letter, bit in term)


def left(restriction, term):
    return tuple((letter, bit) for letter, bit in term if restriction[letter] == 2)


def tree_value(tree, row):
    while isinstance(tree, tuple):
        tree = tree[2] if row[tree[0]] else tree[1]
    return tree


def depth(tree):
    return 1 + max(depth(tree[1]), depth(tree[2])) if isinstance(tree, tuple) else 0


def ways(tree, ahead=()):
    if not isinstance(tree, tuple):
        return [(ahead, tree)]
    return ways(tree[1], ahead + ((tree[0], 0),)) + ways(tree[2], ahead + ((tree[0], 1),))


def trees(letters, most):
    """All trees of these letters that are at most so deep."""
    found = [0, 1]
    if most:
        for letter in letters:
            sides = trees([other for other in letters if other != letter], most - 1)
            found += [(letter, low, high) for low in sides for high in sides]
    return found


def least_depth(table, known={}):
    if len(set(table)) < 2:
        return 0
    if table not in known:
        n = len(table).bit_length() - 1
        pairs = []
        for letter in range(n):
            pairs.append([table_under(table, told((2,) * n, [(letter, bit)])) for bit in (0, 1)])
        known[table] = 1 + min(max(least_depth(low), least_depth(high)) for low, high in pairs)
    return known[table]


def canonical(restriction, formula):
    for term in formula:
        if not is_false(restriction, term):
            letters = [letter for letter, _ in left(restriction, term)]
            return asking(letters, restriction, formula) if letters else 1
    return 0


def asking(letters, restriction, formula):
    if not letters:
        return canonical(restriction, formula)
    low, high = [asking(letters[1:], told(restriction, [(letters[0], bit)]), formula) for bit in (0, 1)]
    return (letters[0], low, high)


def beginnings(restriction, formula):
    found = set()
    for literals, _ in ways(canonical(restriction, formula)):
        found.update(literals[:many] for many in range(len(literals) + 1))
    return sorted(found)


def deep_row(restriction, formula, s):
    rows = [row for row in beginnings(restriction, formula) if len(row) == s]
    return min(rows) if rows else None


def pieces(restriction, formula, literals):
    found = []
    while literals:
        index, term = [(i, term) for i, term in enumerate(formula) if not is_false(restriction, term)][0]
        asked = left(restriction, term)[:len(literals)]
        found.append((index, asked))
        restriction = told(restriction, literals[:len(asked)])
        literals = literals[len(asked):]
    return tuple(found)


def code(restriction, formula, literals):
    first, triples = restriction, []
    answers = dict(literals)
    for index, asked in pieces(restriction, formula, literals):
        first = told(first, asked)
        for literal in asked:
            place = formula[index].index(literal)
            triples.append((place, answers[literal[0]], int(literal == asked[-1])))
    return (first, tuple(triples))


def led_back(formula, code):
    """The pair of the restriction and of the terms taken, or None."""
    first, triples = code
    here, found, taken = list(first), [], []
    rest = list(triples)
    while rest:
        able = [index for index, term in enumerate(formula) if not is_false(here, term)]
        if not able:
            return None
        taken.append(able[0])
        while rest:
            place, answer, end = rest.pop(0)
            if place >= len(formula[able[0]]):
                return None
            letter = formula[able[0]][place][0]
            if first[letter] == 2 or letter in found:
                return None
            found.append(letter)
            here[letter] = answer
            if end:
                break
    return told(first, [(letter, 2) for letter in found]), tuple(taken)


def with_free(n, many):
    return [restriction for restriction in restrictions(n) if len(free(restriction)) == many]


def coformula_table(n, formula):
    return table_by(n, lambda row: coformula_value(formula, row))


def certificate_size(table, row):
    """The least number of letters whose bits tell the value."""
    n = len(row)
    for size in range(n + 1):
        for letters in itertools.combinations(range(n), size):
            literals = [(letter, row[letter]) for letter in letters]
            if {value(table, other) for other in inputs(n) if keeps(other, literals)} == {value(table, row)}:
                return size


def least_width(table, bit):
    """The least width of a formula, for 1, or of a coformula, for 0, that has the table."""
    n = len(table).bit_length() - 1
    return max([0] + [certificate_size(table, row) for row in inputs(n) if value(table, row) == bit])


def whole_rows(restriction, formula, t, ahead=()):
    """The beginnings of whole pieces with at least t literals, but fewer without the last piece."""
    if len(ahead) >= t:
        return [ahead]
    found = []
    for term in formula:
        if not is_false(restriction, term):
            letters = [letter for letter, _ in left(restriction, term)]
            for bits in itertools.product((0, 1), repeat=len(letters)) if letters else ():
                answers = tuple(zip(letters, bits))
                found += whole_rows(told(restriction, answers), formula, t, ahead + answers)
            break
    return found


def turn(restriction, formulas, t):
    for index, formula in enumerate(formulas):
        if depth(canonical(restriction, formula)) >= t:
            return index, min(whole_rows(restriction, formula, t))


def common_tree(restriction, formulas, t):
    taken = turn(restriction, formulas, t)
    return common_asking([letter for letter, _ in taken[1]], restriction, formulas, t) if taken else ()


def common_asking(letters, restriction, formulas, t):
    if not letters:
        return common_tree(restriction, formulas, t)
    sides = [common_asking(letters[1:], told(restriction, [(letters[0], bit)]), formulas, t) for bit in (0, 1)]
    return (letters[0], *sides)


def common_ways(tree, ahead=()):
    if not tree:
        return [ahead]
    return common_ways(tree[1], ahead + ((tree[0], 0),)) + common_ways(tree[2], ahead + ((tree[0], 1),))


def common_depth(tree):
    return max(len(way) for way in common_ways(tree))


def common_code(restriction, formulas, t, s):
    rows = [way[:s] for way in common_ways(common_tree(restriction, formulas, t)) if len(way) >= s]
    if not rows:
        return None
    row = min(rows)
    here, first, turns = restriction, restriction, []
    while row:
        index, turn_row = turn(here, formulas, t)
        part, row = row[:len(turn_row)], row[len(turn_row):]
        marks = []
        for at, asked in pieces(here, formulas[index], turn_row[:len(part)]):
            first = told(first, asked)
            for literal in asked:
                place = formulas[index][at].index(literal)
                letter, answer = part[len(marks)]
                assert letter == literal[0] == turn_row[len(marks)][0]
                marks.append((place, turn_row[len(marks)][1], int(literal == asked[-1]), answer))
        here = told(here, part)
        turns.append((index, tuple(marks)))
    return first, tuple(turns)


def common_back(formulas, code):
    first, turns = code
    here, found = first, []
    for index, marks in turns:
        answers, piece, term = [], [], None
        for place, answer, end, last in marks:
            if term is None:
                able = [term for term in formulas[index] if not is_false(here, term)]
                if not able:
                    return None
                term = able[0]
            if place >= len(term) or first[term[place][0]] == 2 or term[place][0] in found:
                return None
            letter = term[place][0]
            found.append(letter)
            piece.append((letter, answer))
            answers.append((letter, last))
            if end:
                here, piece, term = told(here, piece), [], None
        here = told(here, answers)
    return told(first, [(letter, 2) for letter in found])


def sum_of(row):
    return sum(row) % 2


def line_values(circuit, row):
    values = []
    for line in circuit:
        if line[0] == "letter":
            values.append(int(row[line[1]] == line[2]))
        else:
            members = [values[at] for at in line[1]]
            values.append(int(all(members) if line[0] == "and" else any(members)))
    return values


def circuit_table(n, circuit):
    return table_by(n, lambda row: line_values(circuit, row)[-1])


def circuit_depth(circuit, at=-1):
    line = circuit[at]
    if line[0] == "letter":
        return 0
    found = [1]
    for member in line[1]:
        below = circuit_depth(circuit, member)
        found.append(below if circuit[member][0] == line[0] else below + 1)
    return max(found)


def pushed_lot(circuit, at):
    line = circuit[at]
    members = set()
    for member in line[1]:
        members |= pushed_lot(circuit, member) if circuit[member][0] == line[0] else {member}
    return members


def pushed(circuit):
    lots = [sorted(pushed_lot(circuit, at)) if line[0] != "letter" else [] for at, line in enumerate(circuit)]
    needed, rest = set(), [len(circuit) - 1]
    while rest:
        at = rest.pop()
        needed.add(at)
        rest += [member for member in lots[at] if member not in needed]
    order = sorted(needed)
    lines = []
    for at in order:
        word = circuit[at][0]
        lines.append(circuit[at] if word == "letter" else (word, tuple(order.index(member) for member in lots[at])))
    return tuple(lines)


def random_circuit(chance, n, many, width=4):
    """A circuit of many lines; gates look mostly at the lines just ahead, so that it can get deep."""
    lines = []
    for at in range(many):
        if n and (at == 0 or chance.random() < 0.35):
            lines.append(("letter", chance.randrange(n), chance.randrange(2)))
        else:
            able = range(max(0, at - 6), at) if chance.random() < 0.6 else range(at)
            lot = sorted(chance.sample(able, min(len(able), chance.randint(0 if chance.random() < 0.1 else 1, width))))
            lines.append((chance.choice(("and", "or")), tuple(lot)))
    return tuple(lines)


def layers_value(layers, row):
    word, formulas, upper = layers
    kind = formula_value if word == "ands" else coformula_value
    values = [kind(formula, row) for formula in formulas]
    is_and = word == "ands"
    for layer in upper:
        values = [int((all if is_and else any)(values[at] for at in lot)) for lot in layer]
        is_and = not is_and
    assert len(values) == 1
    return values[0]


def layers_table(n, layers):
    return table_by(n, lambda row: layers_value(layers, row))


def random_layers(chance, n, rounds, many=3, most=3):
    sizes = [chance.randint(1, many) for _ in range(rounds - 1)] + [1]
    formulas = tuple(random_formula(chance, n, most) for _ in range(sizes[0]))
    upper = []
    for below, size in zip(sizes, sizes[1:]):
        upper.append(tuple(
            tuple(sorted(chance.sample(range(below), chance.randint(min(1, below), below)))) for _ in range(size)
        ))
    return chance.choice(("ands", "ors")), formulas, tuple(upper)


def bottom(layers, gate):
    formula = layers[1][gate]
    if layers[0] == "ors":
        formula = tuple(tuple((letter, 1 - bit) for letter, bit in clause) for clause in formula)
    return formula


def bottoms(layers):
    return [bottom(layers, gate) for gate in range(len(layers[1]))]


def deep_gates(layers, restriction, s):
    return [gate for gate, formula in enumerate(bottoms(layers)) if depth(canonical(restriction, formula)) >= s]


def code_for(restriction, formula, s):
    row = deep_row(restriction, formula, s)
    return None if row is None else code(restriction, formula, row)


def lowered(layers, restriction):
    """The layers with a round less, whatever number of clauses they get."""
    word, _, upper = layers
    parts = []
    for formula in bottoms(layers):
        ahead = sorted(literals for literals, end in ways(canonical(restriction, formula)) if end == 0)
        flip = 1 if word == "ands" else 0
        parts.append([tuple(sorted((letter, bit ^ flip) for letter, bit in literals)) for literals in ahead])
    formulas = []
    for lot in upper[0]:
        clauses = []
        for clause in [clause for gate in lot for clause in parts[gate]]:
            if clause not in clauses:
                clauses.append(clause)
        formulas.append(tuple(clauses))
    return "ors" if word == "ands" else "ands", tuple(formulas), upper[1:]


def behind_all(restriction, many):
    """The restrictions with so many free letters that tell all of this one."""
    return [
        other for other in with_free(len(restriction), many)
        if all(member in (2, told) for member, told in zip(restriction, other))
    ]


def swapped_ends(tree):
    return (tree[0], swapped_ends(tree[1]), swapped_ends(tree[2])) if isinstance(tree, tuple) else 1 - tree


def walk(n, layers, free, depths):
    """As `walk` tells it, with the layers of the last round looked at; the charges are all right ones, as lists."""
    here, row = (2,) * n, []
    for many, s in zip(free, depths):
        looked_at = behind_all(here, many)
        good = [restriction for restriction in looked_at if not deep_gates(layers, restriction, s)]
        if not good:
            charges = []
            for restriction in looked_at:
                gates = deep_gates(layers, restriction, s)
                charges.append([(gate, code_for(restriction, bottom(layers, gate), s)) for gate in gates])
            return ("charged", tuple(row), charges), layers
        here = good[0]
        row.append(here)
        if layers[2]:
            layers = lowered(layers, here)
    tree = canonical(here, bottom(layers, 0))
    return ("tree", tuple(row), tree if layers[0] == "ands" else swapped_ends(tree)), layers


def letters_of(table):
    return len(table).bit_length() - 1


def lots(letters):
    """All ascending tuples of some of the letters, ascending."""
    return sorted(lot for size in range(len(letters) + 1) for lot in itertools.combinations(letters, size))


def wave(table, lot):
    rows = inputs(letters_of(table))
    return sum(1 if (value(table, row) + sum(row[letter] for letter in lot)) % 2 == 0 else -1 for row in rows)


def waves_under(restriction, table):
    """The waves of the table under the restriction, with the letters' own names."""
    found = {}
    for lot in lots(free(restriction)):
        signs = [(-1) ** (value(table, row) + sum(row[letter] for letter in lot)) for row in fitting(restriction)]
        found[lot] = sum(signs)
    return found


def whole_wave(table):
    return wave(table, tuple(range(letters_of(table))))


def deep_weight(table, m, s):
    """By the restrictions, times the power of 2."""
    n = letters_of(table)
    total = 0
    for restriction in with_free(n, m):
        total += sum(found ** 2 for lot, found in waves_under(restriction, table).items() if len(lot) >= s)
    return total * 2 ** (n - m) if m <= n else 0


def turns(table):
    """All pairs of an input and a letter that changes the value there."""
    n = letters_of(table)
    pairs = itertools.product(inputs(n), range(n))
    return [(row, letter) for row, letter in pairs if value(table, row) != value(table, turned(row, letter))]


def is_bush_leaf(bush):
    return isinstance(bush, tuple) and len(bush) == 2


def is_bush_gate(bush):
    return isinstance(bush, tuple) and len(bush) == 3


def bush_value(bush, row):
    if is_bush_gate(bush):
        sides = [bush_value(side, row) for side in bush[1:]]
        return min(sides) if bush[0] == "and" else max(sides)
    return int(row[bush[0]] == bush[1]) if is_bush_leaf(bush) else bush


def bush_table(n, bush):
    return table_by(n, lambda row: bush_value(bush, row))


def bush_leaves(bush):
    if is_bush_gate(bush):
        return bush_leaves(bush[1]) + bush_leaves(bush[2])
    return [bush] if is_bush_leaf(bush) else []


def bush_told(bush, letter, bit):
    """Leaves of the letter become 0 and 1, and then one gate after the other goes, as long as one can."""
    bush = leaves_told(bush, letter, bit)
    while True:
        smaller = one_gate_less(bush)
        if smaller == bush:
            return bush
        bush = smaller


def leaves_told(bush, letter, bit):
    if is_bush_gate(bush):
        return (bush[0], *[leaves_told(side, letter, bit) for side in bush[1:]])
    return int(bush[1] == bit) if is_bush_leaf(bush) and bush[0] == letter else bush


def one_gate_less(bush):
    if not is_bush_gate(bush):
        return bush
    for side, other in ((bush[1], bush[2]), (bush[2], bush[1])):
        if side in (0, 1):
            return other if (bush[0], side) in (("and", 1), ("or", 0)) else side
    first = one_gate_less(bush[1])
    return (bush[0], first, one_gate_less(bush[2]) if first == bush[1] else bush[2])


def bush_parts(bush, path=()):
    """All pairs of a path and the part that it tells."""
    found = [(path, bush)]
    if is_bush_gate(bush):
        found += bush_parts(bush[1], path + (0,)) + bush_parts(bush[2], path + (1,))
    return found


def cut_paths(bush):
    """The paths of all gates at which the bush can be cut."""
    found = []
    for path, part in bush_parts(bush):
        if is_bush_gate(part):
            for side, other in ((part[1], part[2]), (part[2], part[1])):
                letters = [leaf[0] for leaf in bush_leaves(other)]
                if side in (0, 1) or (is_bush_leaf(side) and side[0] in letters):
                    found.append(path)
    return sorted(set(found))


def random_bush(chance, n, many):
    """A bush of so many leaves, some of which can be 0 or 1."""
    if many == 1:
        if n and chance.random() < 0.93:
            return (chance.randrange(n), chance.randrange(2))
        return chance.randrange(2)
    first = chance.randrange(1, many)
    sides = [random_bush(chance, n, first), random_bush(chance, n, many - first)]
    return (chance.choice(("and", "or")), *sides)


def are_neighbours(row, other):
    return sum(one != two for one, two in zip(row, other)) == 1


def polynomial_value(polynomial, row):
    return sum(number for lot, number in polynomial.items() if all(row[letter] for letter in lot)) % 3


def polynomial_row(n, polynomial):
    return tuple(polynomial_value(polynomial, row) for row in inputs(n))


def tidied(polynomial):
    """With ascending lots, and without those that have a 0."""
    return {lot: polynomial[lot] % 3 for lot in sorted(polynomial) if polynomial[lot] % 3}


def added(*some):
    found = {}
    for polynomial in some:
        for lot, number in polynomial.items():
            found[lot] = found.get(lot, 0) + number
    return tidied(found)


def times(one, other):
    found = {}
    for lot, number in one.items():
        for second, factor in other.items():
            both = tuple(sorted(set(lot) | set(second)))
            found[both] = found.get(both, 0) + number * factor
    return tidied(found)


def one_less(polynomial):
    """1 less the polynomial."""
    return added({(): 1}, times({(): 2}, polynomial))


def line_polynomials(circuit, factors):
    """The polynomials of the lines, just as the document builds them."""
    found = []
    for line, tuples in zip(circuit, factors):
        if line[0] == "letter":
            letter = {(line[1],): 1}
            found.append(letter if line[2] else one_less(letter))
            continue
        members = [found[at] for at in line[1]]
        if line[0] == "thirds":
            total = added(*members)
            found.append(times(total, total))
        elif line[0] == "or":
            found.append(or_polynomial(members, tuples))
        else:
            found.append(one_less(or_polynomial([one_less(member) for member in members], tuples)))
    return found


def or_polynomial(members, tuples):
    product = {(): 1}
    for numbers in tuples:
        total = added(*[times({(): number}, member) for number, member in zip(numbers, members)])
        product = times(product, one_less(times(total, total)))
    return one_less(product)


def line_charges(n, circuit, factors):
    """For each line the charged inputs, and the doubtful ones."""
    polynomials = line_polynomials(circuit, factors)
    found = []
    for line, polynomial in zip(circuit, polynomials):
        charged, doubtful = [], []
        for row in inputs(n) if line[0] in ("and", "or") else ():
            values = [polynomial_value(polynomials[at], row) for at in line[1]]
            told = int(any(values) if line[0] == "or" else all(values))
            if polynomial_value(polynomial, row) != told:
                charged.append(row)
            if (1 if line[0] == "or" else 0) in values:
                doubtful.append(row)
        found.append((tuple(charged), tuple(doubtful)))
    return found


def thirds_values(circuit, row):
    values = []
    for line in circuit:
        if line[0] == "letter":
            values.append(int(row[line[1]] == line[2]))
        else:
            members = [values[at] for at in line[1]]
            by_word = {"and": all(members), "or": any(members), "thirds": sum(members) % 3 != 0}
            values.append(int(by_word[line[0]]))
    return values


def thirds_table(n, circuit):
    return table_by(n, lambda row: thirds_values(circuit, row)[-1])


def random_thirds(chance, n, many, width=4):
    """A circuit with thirds of so many lines."""
    lines = []
    for line in random_circuit(chance, n, many, width):
        lines.append(("thirds", line[1]) if line[0] != "letter" and chance.random() < 0.25 else line)
    return tuple(lines)


def random_factors(chance, circuit, rounds):
    return tuple(
        tuple(tuple(chance.randrange(3) for _ in line[1]) for _ in range(rounds)) if line[0] in ("and", "or") else ()
        for line in circuit
    )
