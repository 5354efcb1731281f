import itertools
import random
import unittest

import reference
import support
from deepcodes import errors
from deepcodes.canon import canonical
from deepcodes.letters import terms
from deepcodes.told import restrictions as told
from deepcodes.trees import least, trees

CHANCE = random.Random(66)
DEEP = (((0, 1), (1, 1)), ((1, 1), (2, 1), (3, 1)), ((1, 0), (4, 1), (5, 1)))
FREE, SHUT = (2,) * 6, (0, 2, 2, 2, 2, 2)
PAIR = (((0, 1), (1, 0)), ((1, 1),), ((0, 1), (1, 0), (2, 1)))


def cases(most=3, many=12):
    for n in range(most + 1):
        for formula in reference.some_formulas(n, many, 6):
            for restriction in reference.restrictions(n):
                yield n, formula, restriction


def great_formula(n, size, many=64):
    return tuple(reference.random_term(CHANCE, n, size) for _ in range(many))


class TestTree(support.Case):
    """[0.13], [6.1], [6.2]"""

    def test_tree(self):
        for n, formula, restriction in cases():
            tree = canonical.canonical_tree(restriction, formula)
            wanted = reference.canonical(restriction, formula)
            self.assertEqual(tree, wanted)
            self.assertEqual(canonical.canonical_depth(restriction, formula), reference.depth(wanted))
            table = reference.table_under(reference.formula_table(n, formula), restriction)
            under = told.table_under(trees.table_of(n, tree), restriction)
            self.assertEqual(under, table)
            free = reference.free(restriction)
            asked = {letter for literals, _ in reference.ways(tree) for letter, _ in literals}
            self.assertLessEqual(asked, set(free))
            self.assertLessEqual(reference.least_depth(table), reference.depth(tree))

    def test_great_ones(self):
        for size in (1, 3, 5, 9, 10):
            formula = great_formula(10, size)
            for restriction in [(2,) * 10] + [tuple(CHANCE.choice((0, 1, 2, 2)) for _ in range(10)) for _ in range(3)]:
                tree = canonical.canonical_tree(restriction, formula)
                self.assertEqual(tree, reference.canonical(restriction, formula))
        self.assertEqual(canonical.canonical_tree((2,) * 10, ()), 0)
        self.assertEqual(canonical.canonical_tree((2,) * 10, ((),) * 64), 1)
        self.assertEqual(canonical.canonical_tree((), ((),)), 1)
        self.assertEqual(canonical.canonical_tree((), ()), 0)

    def test_is_canonical(self):
        for n, formula, restriction in cases(2, 6):
            right = reference.canonical(restriction, formula)
            every = reference.trees(list(range(n)), n)
            wrong = [tree for tree in every if tree != right]
            self.takes_just(canonical.is_canonical, (restriction, formula), [right], wrong)

    def test_where_terms_end(self):
        for _, formula, restriction in cases():
            first = terms.first_left(restriction, formula)
            if first is None:
                self.assertEqual(canonical.canonical_tree(restriction, formula), 0)
                continue
            letters = [letter for letter, _ in first[1]]
            for bits in itertools.product((0, 1), repeat=len(letters)):
                at = canonical.canonical_tree(restriction, formula)
                for letter, bit in zip(letters, bits):
                    self.assertEqual(at[0], letter)
                    at = at[1 + bit]
                behind = told.with_literals(restriction, tuple(zip(letters, bits)))
                self.assertEqual(at, canonical.canonical_tree(behind, formula))
                if tuple(zip(letters, bits)) == first[1]:
                    self.assertEqual(at, 1)

    def test_arguments(self):
        arguments = (support.any_restriction((2, 0, 2)), support.formula(3, PAIR))
        nothing = (support.any_restriction(()), support.formula(0, ((),)))
        for function in (canonical.canonical_tree, canonical.canonical_depth):
            self.checks(function, *arguments)
            self.checks(function, *nothing)
        for function in (canonical.is_canonical, canonical.is_beginning):
            self.judges(function, *arguments)
            self.judges(function, *nothing)


class TestLower(support.Case):
    """[6.3]"""

    def test_lower(self):
        for _, formula, restriction in cases():
            first = terms.first_left(restriction, formula)
            depth = canonical.canonical_depth(restriction, formula)
            for letter, bit in first[1] if first else ():
                for answer in (0, 1):
                    if answer == bit or len(first[1]) == 1:
                        behind = reference.told(restriction, [(letter, answer)])
                        self.assertLess(canonical.canonical_depth(behind, formula), depth)

    def test_deeper(self):
        self.assertEqual(canonical.canonical_depth(FREE, DEEP), 4)
        self.assertEqual(canonical.canonical_depth(SHUT, DEEP), 5)


class TestUsed(support.Case):
    """[6.4]"""

    def test_used(self):
        for n in range(4):
            for formula in reference.some_formulas(n, 25, 7):
                used = set()
                first = set()
                for row in reference.inputs(n):
                    used.update([i for i, term in enumerate(formula) if reference.keeps(row, term)][:1])
                for restriction in reference.restrictions(n):
                    found = terms.first_left(restriction, formula)
                    first.update([found[0]] if found else [])
                indices = canonical.used_terms(n, formula)
                self.assertEqual(indices, tuple(sorted(used)))
                self.assertEqual(used, first)
                short = canonical.shortened(n, formula)
                self.assertEqual(short, tuple(formula[index] for index in indices))
                for restriction in reference.restrictions(n):
                    tree = canonical.canonical_tree(restriction, formula)
                    self.assertEqual(canonical.canonical_tree(restriction, short), tree)

    def test_more_literals_of_an_earlier_term(self):
        self.assertEqual(canonical.used_terms(3, PAIR), (0, 1))
        self.assertEqual(canonical.used_terms(3, PAIR[::-1]), (0, 1, 2))
        self.assertEqual(canonical.used_terms(1, ((), ((0, 1),), ())), (0,))
        self.assertEqual(canonical.used_terms(1, (((0, 1),), ((0, 0),), ())), (0, 1))

    def test_arguments(self):
        for function in (canonical.used_terms, canonical.shortened):
            self.checks(function, support.letters(3), support.formula(3, PAIR))
            self.checks(function, support.letters(0), support.formula(0, ((),)))


class TestNames(support.Case):
    """[6.5]"""

    def test_names(self):
        for n in range(1, 5):
            for formula in reference.some_formulas(n, 12, 8):
                order = list(range(n))
                CHANCE.shuffle(order)
                flips = [CHANCE.randrange(2) for _ in range(n)]
                other = tuple(tuple(sorted((order[v], b ^ flips[v]) for v, b in term)) for term in formula)
                for restriction in CHANCE.sample(reference.restrictions(n), 3):
                    members = [None] * n
                    for letter, member in enumerate(restriction):
                        members[order[letter]] = member if member == 2 else member ^ flips[letter]
                    depth = canonical.canonical_depth(restriction, formula)
                    self.assertEqual(canonical.canonical_depth(tuple(members), other), depth)
                    for member in (0, 1, 2):
                        self.assertEqual(canonical.canonical_depth((*restriction, member), formula), depth)


class TestDeep(support.Case):
    """[0.14], [6.6]"""

    def test_deep_rows(self):
        for _, formula, restriction in cases():
            depth = canonical.canonical_depth(restriction, formula)
            for s in (*range(6), 10):
                row = canonical.deep_row(restriction, formula, s)
                self.assertEqual(row, reference.deep_row(restriction, formula, s))
                self.assertEqual(row is None, depth < s)

    def test_great_rows(self):
        for size in (2, 4, 9):
            formula = great_formula(10, size)
            depth = canonical.canonical_depth((2,) * 10, formula)
            rows = [canonical.deep_row((2,) * 10, formula, s) for s in range(11)]
            self.assertEqual([row is None for row in rows], [s > depth for s in range(11)])
            every = reference.beginnings((2,) * 10, formula)
            for s in range(depth + 1):
                self.assertEqual(rows[s], min(row for row in every if len(row) == s))

    def test_answers(self):
        for n, formula, restriction in cases(2, 8):
            tree = reference.canonical(restriction, formula)
            rows = reference.beginnings(restriction, formula)
            literals = [(letter, bit) for letter in range(n) for bit in (0, 1)]
            every = [("row", row) for size in range(n + 1) for row in itertools.product(literals, repeat=size)]
            every += [("tree", other) for other in reference.trees(list(range(n)), n)]
            for s in range(n + 2):
                right = [("row", row) for row in rows if len(row) == s]
                right = right or [("tree", tree)]
                self.assertEqual(right[0][0] == "tree", reference.depth(tree) < s)
                judge = (canonical.is_deep_answer, (restriction, formula, s))
                self.takes_just(*judge, right, [value for value in every if value not in right])
                self.assertIn(canonical.deep_answer(restriction, formula, s), right)

    def test_beginnings(self):
        for n, formula, restriction in cases(3, 5):
            right = reference.beginnings(restriction, formula)
            literals = [(letter, bit) for letter in range(n) for bit in (0, 1)]
            every = [row for size in range(3) for row in itertools.product(literals, repeat=size)]
            every += [row + (literal,) for row in right for literal in literals]
            wrong = [row for row in every if row not in right]
            self.takes_just(canonical.is_beginning, (restriction, formula), right, wrong)

    def test_arguments(self):
        arguments = (support.any_restriction((2, 0, 2)), support.formula(3, PAIR), support.number(1, 0, 10))
        for function in (canonical.deep_row, canonical.deep_answer):
            self.checks(function, *arguments)
        self.judges(canonical.is_deep_answer, *arguments)
        self.judges(canonical.is_deep_answer, *arguments[:2], support.number(0, 0, 10))
        self.judges(canonical.is_deep_answer, *arguments[:2], support.number(10, 0, 10))


class TestWays(support.Case):
    """[6.6]: ways, and the pieces of their beginnings."""

    def test_way_at(self):
        for n, formula, restriction in cases():
            ways = reference.ways(reference.canonical(restriction, formula))
            for row in reference.inputs(n):
                if reference.fits(row, restriction):
                    kept = [literals for literals, _ in ways if reference.keeps(row, literals)]
                    self.assertEqual([canonical.way_at(restriction, formula, row)], kept)
                else:
                    self.refuses(errors.InvalidOperation, None, canonical.way_at, restriction, formula, row)

    def test_pieces(self):
        for _, formula, restriction in cases():
            for literals in reference.beginnings(restriction, formula):
                found = canonical.pieces(restriction, formula, literals)
                self.assertEqual(found, reference.pieces(restriction, formula, literals))
                letters = [letter for _, piece in found for letter, _ in piece]
                self.assertEqual(letters, [letter for letter, _ in literals])

    def test_pieces_are_cut(self):
        self.assertEqual(canonical.pieces(FREE, DEEP, ()), ())
        self.assertEqual(canonical.pieces(FREE, DEEP, ((0, 0),)), ((0, ((0, 1),)),))
        self.assertEqual(canonical.pieces(FREE, DEEP, ((0, 1), (1, 1))), ((0, ((0, 1), (1, 1))),))

    def test_arguments(self):
        arguments = (support.any_restriction((2, 0, 2)), support.formula(3, PAIR))
        self.checks(canonical.way_at, *arguments, support.row((1, 0, 1)))
        self.refuses(errors.InvalidOperation, None, canonical.way_at, (2, 0, 2), PAIR, (1, 1, 1))
        self.refuses(errors.InvalidInput, None, canonical.way_at, (2, 0, 2), PAIR, (1, 1))
        wrong = support.NO_TUPLES + [((1, 0),), ((0, 1), (1, 0)), ((0, 2),), ((0, True),), ((False, 1),), ([0, 1],)]
        wrong += [((0, 1), (0, 1)), ((0, 1), None), ((0,),), ((0, 1, 1),), (0, 1), ((2, 1),), ((10 ** 10, 1),)]
        literals = support.Argument(((0, 1),), errors.InvalidOperation, wrong)
        self.checks(canonical.pieces, *arguments, literals)


class TestNotTrue(support.Case):
    """[6.7]"""

    def test_sequence(self):
        depths = {canonical.canonical_depth((2, 2, 2), formula) for formula in (PAIR, PAIR[::-1])}
        self.assertEqual(depths, {2, 3})

    def test_least(self):
        formula = (((0, 1),), ((0, 0),))
        self.assertEqual(canonical.canonical_tree((2,), formula), (0, 1, 1))
        self.assertEqual(least.least_depth(terms.formula_table(1, formula)), 0)


if __name__ == "__main__":
    unittest.main()
