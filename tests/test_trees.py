import itertools
import random
import unittest

import reference
import support
from deepcodes import errors
from deepcodes.trees import trees

CHANCE = random.Random(44)
PICK = (0, (1, 0, 1), (2, 1, 1))


def some_trees(n, many=25):
    every = [0, 1] + [reference.random_tree(CHANCE, list(range(n))) for _ in range(many)]
    return every + [reference.random_tree(CHANCE, list(range(n)), 0.0)]


def full_tree(n, at=0):
    """The tree that asks all letters ascending, and tells their sum."""
    if at == n:
        return 0
    below = full_tree(n, at + 1)
    return (at, below, opposite(below))


def opposite(tree):
    return (tree[0], opposite(tree[1]), opposite(tree[2])) if isinstance(tree, tuple) else 1 - tree


class TestForms(support.Case):
    """[0.12]"""

    def test_is_tree(self):
        self.takes_just(trees.is_tree, (3,), [0, 1, PICK, (2, 0, 0)] + some_trees(3), support.tree(3, 0).wrong)
        self.takes_just(trees.is_tree, (0,), [0, 1], support.tree(0, 0).wrong + [(0, 0, 1)])
        self.takes_just(trees.is_tree, (2,), [(1, (0, 0, 1), (0, 1, 0))], support.tree(2, 0).wrong + [PICK])
        self.assertIs(trees.is_tree(10, full_tree(10)), True)
        self.assertIs(trees.is_tree(9, full_tree(10)), False)

    def test_depth_and_ends(self):
        for n in range(5):
            for tree in some_trees(n):
                self.assertEqual(trees.depth_of(n, tree), reference.depth(tree))
                self.assertEqual(trees.end_number(n, tree), len(reference.ways(tree)))
        self.assertEqual(trees.depth_of(10, full_tree(10)), 10)
        self.assertEqual(trees.end_number(10, full_tree(10)), 1024)

    def test_arguments(self):
        self.judges(trees.is_tree, support.letters(3))
        arguments = (support.letters(3), support.tree(3, PICK))
        for function in (trees.depth_of, trees.end_number, trees.table_of, trees.ways, trees.formula_of):
            self.checks(function, *arguments)
            self.checks(function, support.letters(0), support.tree(0, 1))
        for function in (trees.coformula_of, trees.neat, trees.needless):
            self.checks(function, *arguments)
        self.checks(trees.value_at, *arguments, support.row((1, 0, 1)))
        self.judges(trees.is_needless, *arguments)
        self.checks(trees.tree_under, *arguments, support.restriction((2, 1, 2)))
        self.checks(trees.chosen, *arguments, support.tree(3, (0, 0, 1)), support.tree(3, 1))
        self.checks(trees.tree_number, support.number(3, 0, 10), support.number(2, 0, 10))


class TestWays(support.Case):
    """[4.1], [4.2]"""

    def test_ways(self):
        for n in range(5):
            for tree in some_trees(n):
                found = trees.ways(n, tree)
                self.assertEqual(found, tuple(reference.ways(tree)))
                for row in reference.inputs(n):
                    kept = [end for literals, end in found if reference.keeps(row, literals)]
                    self.assertEqual(kept, [trees.value_at(n, tree, row)])
                    self.assertEqual(kept, [reference.tree_value(tree, row)])
                for literals, _ in found:
                    kept = [row for row in reference.inputs(n) if reference.keeps(row, literals)]
                    self.assertEqual(len(kept), 2 ** (n - len(literals)))
                table = reference.table_by(n, lambda row: reference.tree_value(tree, row))
                self.assertEqual(trees.table_of(n, tree), table)

    def test_formulas(self):
        for n in range(5):
            for tree in some_trees(n):
                table = trees.table_of(n, tree)
                ways = reference.ways(tree)
                formula = trees.formula_of(n, tree)
                self.assertEqual(formula, tuple(tuple(sorted(literals)) for literals, end in ways if end == 1))
                self.assertEqual(reference.formula_table(n, formula), table)
                coformula = trees.coformula_of(n, tree)
                wanted = [sorted((v, 1 - b) for v, b in literals) for literals, end in ways if end == 0]
                self.assertEqual(coformula, tuple(tuple(clause) for clause in wanted))
                self.assertEqual(reference.table_by(n, lambda row: reference.coformula_value(coformula, row)), table)
                widths = (reference.width(formula), reference.width(coformula))
                self.assertLessEqual(max(widths), reference.depth(tree))
                for row in reference.inputs(n):
                    self.assertLessEqual(sum(reference.keeps(row, term) for term in formula), 1)

    def test_more_than_64_ways(self):
        self.assertEqual(len(trees.formula_of(7, full_tree(7))), 64)
        self.assertEqual(len(trees.coformula_of(7, full_tree(7))), 64)
        one_more = (0, full_tree(8)[1], (1, 0, 1))
        self.assertEqual(len(reference.ways(one_more)), 130)
        for function in (trees.formula_of, trees.coformula_of):
            self.refuses(errors.TooMany, 64, function, 8, one_more)
            self.refuses(errors.TooMany, 64, function, 10, full_tree(10))
            self.refuses(errors.InvalidTree, None, function, 7, one_more)
        many_ones = (0, full_tree(8)[1], 1)
        self.refuses(errors.TooMany, 64, trees.formula_of, 8, many_ones)
        self.assertEqual(len(trees.coformula_of(8, many_ones)), 64)


class TestBothWidths(support.Case):
    """[4.3]"""

    def test_one_table(self):
        for n in range(4):
            for tree in some_trees(n):
                formula, coformula = trees.formula_of(n, tree), trees.coformula_of(n, tree)
                self.check(n, formula, coformula)
                self.check(n, formula[::-1], coformula[::-1])

    def test_any_two(self):
        for n in range(4):
            every = reference.some_formulas(n, 12, 4)
            for formula, coformula in itertools.product(every, repeat=2):
                self.check(n, formula, coformula)

    def check(self, n, formula, coformula):
        answer = trees.tree_or_input(n, formula, coformula)
        rows = reference.inputs(n)
        unlike = [r for r in rows if reference.formula_value(formula, r) != reference.coformula_value(coformula, r)]
        most = reference.width(formula) * reference.width(coformula)
        every = [("input", row) for row in rows]
        judge = (trees.is_tree_or_input, (n, formula, coformula))
        if unlike:
            right = [("input", row) for row in unlike]
            self.assertIn(answer, right)
            self.takes_just(*judge, right, [v for v in every if v not in right] + [("tree", 0), ("tree", 1)])
            return
        self.assertEqual(answer[0], "tree")
        self.assertLessEqual(reference.depth(answer[1]), most)
        self.assertEqual(trees.table_of(n, answer[1]), reference.formula_table(n, formula))
        self.takes_just(*judge, [answer], every + [("tree", opposite(answer[1]))])

    def test_widths_bound_the_depth(self):
        term = tuple((letter, 1) for letter in range(3))
        clauses = tuple(((letter, 1),) for letter in range(3))
        self.assertEqual(trees.tree_or_input(3, (term,), clauses)[0], "tree")
        one, needless = ((0, 1),), (0, (1, 0, 0), 1)
        self.takes_just(trees.is_tree_or_input, (2, (one,), (one,)), [("tree", (0, 0, 1))], [("tree", needless)])
        wide = (((0, 1), (1, 1)), ((0, 1), (1, 0)))
        self.takes_just(trees.is_tree_or_input, (2, wide, (one,)), [("tree", needless), ("tree", (0, 0, 1))])

    def test_many_trees_are_right(self):
        formula, coformula = (((0, 1),), ((1, 1),)), (((0, 1), (1, 1)),)
        right = [("tree", (0, (1, 0, 1), 1)), ("tree", (1, (0, 0, 1), 1)), ("tree", (0, (1, 0, 1), (1, 1, 1)))]
        self.takes_just(trees.is_tree_or_input, (2, formula, coformula), right, [("tree", 1), ("input", (0, 0))])

    def test_it_ends_once_all_clauses_are_kept(self):
        """The canonical tree alone would be too deep."""
        self.assertEqual(trees.tree_or_input(1, (((0, 0),), ((0, 1),)), ()), ("tree", 1))
        for bit in (0, 1):
            formula = (((0, bit), (2, 1)), ((0, bit), (1, 1)), ((0, bit), (1, 0)))
            self.check(3, formula, (((0, bit),),))
            self.check(3, formula, (((0, bit),), ((0, bit),)))
        for n in range(2, 6):
            for _ in range(60):
                tree = reference.random_tree(CHANCE, list(range(n)), 0.3)
                formula, coformula = trees.formula_of(n, tree), trees.coformula_of(n, tree)
                for _ in range(3):
                    terms = list(formula) + [term for term in formula if CHANCE.random() < 0.5]
                    CHANCE.shuffle(terms)
                    if len(terms) <= 64:
                        answer = trees.tree_or_input(n, tuple(terms), coformula)
                        most = reference.width(formula) * reference.width(coformula)
                        self.assertLessEqual(reference.depth(answer[1]), most)

    def test_arguments(self):
        formulas = (support.formula(2, (((0, 1),),)), support.formula(2, (((0, 1), (1, 1)),)))
        self.checks(trees.tree_or_input, support.letters(2), *formulas)
        self.judges(trees.is_tree_or_input, support.letters(2), *formulas)


class TestUnder(support.Case):
    """[4.4], [4.5]"""

    def test_under(self):
        for n in range(4):
            for tree in some_trees(n, 12):
                for restriction in reference.restrictions(n):
                    under = trees.tree_under(n, tree, restriction)
                    self.assertEqual(under, self.told_tree(tree, restriction))
                    self.assertLessEqual(reference.depth(under), reference.depth(tree))
                    for row in reference.fitting(restriction):
                        self.assertEqual(reference.tree_value(under, row), reference.tree_value(tree, row))

    def told_tree(self, tree, restriction):
        if not isinstance(tree, tuple):
            return tree
        sides = [self.told_tree(side, restriction) for side in tree[1:]]
        return sides[restriction[tree[0]]] if restriction[tree[0]] < 2 else (tree[0], *sides)

    def test_chosen(self):
        for n in range(4):
            for _ in range(80):
                tree, low, high = [reference.random_tree(CHANCE, list(range(n))) for _ in range(3)]
                whole = trees.chosen(n, tree, low, high)
                self.assertTrue(trees.is_tree(n, whole))
                deepest = max(reference.depth(low), reference.depth(high))
                self.assertLessEqual(reference.depth(whole), reference.depth(tree) + deepest)
                for row in reference.inputs(n):
                    side = high if reference.tree_value(tree, row) else low
                    self.assertEqual(reference.tree_value(whole, row), reference.tree_value(side, row))
                ways = []
                for literals, end in reference.ways(tree):
                    side = self.told_tree((low, high)[end], reference.told((2,) * n, literals))
                    ways += [(literals + more, last) for more, last in reference.ways(side)]
                self.assertEqual(reference.ways(whole), ways)


class TestNeat(support.Case):
    """[4.6]"""

    def test_neat(self):
        for n in range(4):
            for tree in some_trees(n, 40):
                neat = trees.neat(n, tree)
                self.assertEqual(neat, self.neat_tree(tree))
                self.assertEqual(trees.table_of(n, neat), trees.table_of(n, tree))
                self.assertLessEqual(reference.depth(neat), reference.depth(tree))
                self.assertIsNone(trees.needless(n, neat))
                self.assertIs(trees.is_needless(n, neat, None), True)

    def neat_tree(self, tree):
        if not isinstance(tree, tuple):
            return tree
        low, high = [self.neat_tree(side) for side in tree[1:]]
        return low if low == high else (tree[0], low, high)

    def questions(self, tree, ahead=()):
        if not isinstance(tree, tuple):
            return []
        sides = [self.questions(tree[1 + bit], ahead + ((tree[0], bit),)) for bit in (0, 1)]
        return [(ahead, tree[1] == tree[2])] + sides[0] + sides[1]

    def test_needless(self):
        for n in range(4):
            for tree in some_trees(n, 40):
                questions = self.questions(tree)
                right = [ahead for ahead, is_needless in questions if is_needless] or [None]
                wrong = [ahead for ahead, is_needless in questions if not is_needless]
                wrong += [literals for literals, _ in reference.ways(tree)]
                wrong += [literals + ((0, 0),) for literals, _ in reference.ways(tree)] if n else []
                wrong += [None] if right != [None] else []
                self.takes_just(trees.is_needless, (n, tree), right, wrong)
                self.assertIn(trees.needless(n, tree), right)

    def test_only_needless_when_neat_ones_are_not_equal(self):
        tree = (0, (1, 0, 0), 0)
        self.assertEqual(trees.needless(2, tree), ((0, 0),))
        self.assertEqual(trees.neat(2, tree), 0)
        wrong = [(), None, ((0, 1),), ((0, 0), (1, 0)), ((1, 0),), [(0, 0)], ((0,),), ((0, 2),), "", 0]
        self.takes_just(trees.is_needless, (2, tree), [((0, 0),)], wrong)

    def test_what_is_not_true(self):
        """[4.8]: neat trees of one table with unlike depths and numbers of ends."""
        one, other = (0, (1, 0, 1), (1, 0, (2, 0, 1))), (1, 0, (0, 1, (2, 0, 1)))
        self.assertEqual(trees.table_of(3, one), trees.table_of(3, other))
        self.assertEqual([trees.needless(3, tree) for tree in (one, other)], [None, None])
        self.assertEqual([trees.end_number(3, tree) for tree in (one, other)], [5, 4])


class TestHowMany(support.Case):
    """[4.7]"""

    def test_numbers(self):
        for n in range(11):
            self.assertEqual(trees.tree_number(n, 0), 2)
            self.assertEqual(trees.tree_number(0, n), 2)
            for depth in range(1, 11):
                if n:
                    wanted = 2 + n * trees.tree_number(n - 1, depth - 1) ** 2
                    self.assertEqual(trees.tree_number(n, depth), wanted)

    def test_counted(self):
        for n in range(3):
            for depth in range(4):
                self.assertEqual(trees.tree_number(n, depth), len(reference.trees(list(range(n)), depth)))
        self.assertEqual(trees.tree_number(3, 2), len(reference.trees([0, 1, 2], 2)))


if __name__ == "__main__":
    unittest.main()
