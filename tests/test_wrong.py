import itertools
import random
import unittest

import reference
import support
from deepcodes import errors
from deepcodes.canon import codes
from deepcodes.circuits import circuits, lowered, wrong
from deepcodes.trees import least

CHANCE = random.Random(1313)
DEEP = (((0, 1), (1, 1)), ((1, 1), (2, 1), (3, 1)), ((1, 0), (4, 1), (5, 1)))
PAIR = (((0, 1), (1, 0)), ((1, 1),), ((0, 1), (1, 0), (2, 1)))
PARTS = (
    ("letter", 0, 1), ("letter", 0, 0), ("letter", 1, 1), ("letter", 1, 0), ("and", (0, 3)), ("and", (1, 2)),
    ("or", (4, 5)),
)
THREE = ("ands", ((((0, 1), (1, 1)), ((2, 1),)), (((0, 0),),)), (((0, 1),),))
ODD = tuple(tuple(enumerate(row)) for row in reference.inputs(7) if sum(row) % 2)
ODD_LAYERS = ("ands", (ODD, (((0, 1),),)), (((0,), (0, 1)), ((0,),)))


def fitting_trees(most=3, many=12):
    """Restrictions, and trees that ask free letters alone."""
    for n in range(most + 1):
        for restriction in reference.restrictions(n):
            free = reference.free(restriction)
            yield restriction, 0
            yield restriction, 1
            for _ in range(many):
                yield restriction, reference.random_tree(CHANCE, free, CHANCE.choice((0, 0.2, 0.5)))


def fitting_tree(restriction, good):
    """The argument `tree` behind a restriction."""
    argument = support.tree(len(restriction), good)
    argument.wrong += [(letter, 0, 1) for letter, member in enumerate(restriction) if member != 2]
    argument.wrong += [
        (free, 1, (letter, 0, 1)) for letter, member in enumerate(restriction) if member != 2
        for free in reference.free(restriction)
    ]
    return argument


class TestTrees(support.Case):
    """[13.1]"""

    def test_low_trees(self):
        for restriction, tree in fitting_trees():
            rows = reference.inputs(len(restriction))
            there = [row for row in reference.fitting(restriction)]
            right = [row for row in there if reference.tree_value(tree, row) != reference.sum_of(row)]
            self.takes_just(wrong.is_wrong_input, (restriction, tree), right, [row for row in rows if row not in right])
            if reference.depth(tree) < restriction.count(2):
                self.assertIn(wrong.wrong_input(restriction, tree), right)
                self.assertEqual(len(right), 2 ** (restriction.count(2) - 1))
            else:
                self.refuses(errors.Refused, ("deep",), wrong.wrong_input, restriction, tree)

    def test_ten_letters(self):
        for share in (0.1, 0.3):
            for restriction in ((2,) * 10, (2, 0, 1) * 3 + (2,)):
                free = reference.free(restriction)
                tree = reference.random_tree(CHANCE, free[:-1], share)
                row = wrong.wrong_input(restriction, tree)
                self.assertTrue(reference.fits(row, restriction))
                self.assertNotEqual(reference.tree_value(tree, row), reference.sum_of(row))

    def test_wrong_number(self):
        for restriction, tree in fitting_trees(3, 5):
            for _ in range(4):
                table = tuple(CHANCE.randrange(2) for _ in range(2 ** len(restriction)))
                there = reference.fitting(restriction)
                unlike = [r for r in there if reference.tree_value(tree, r) != reference.value(table, r)]
                self.assertEqual(wrong.wrong_number(restriction, tree, table), len(unlike))
            odd = reference.table_by(len(restriction), reference.sum_of)
            if reference.depth(tree) < restriction.count(2):
                self.assertEqual(wrong.wrong_number(restriction, tree, odd), 2 ** (restriction.count(2) - 1))

    def test_arguments(self):
        for restriction, tree in (((2, 0, 2), (2, 0, 1)), ((2, 2, 1), 1), ((1, 2), 0)):
            arguments = (support.any_restriction(restriction), fitting_tree(restriction, tree))
            self.checks(wrong.wrong_input, *arguments)
            self.judges(wrong.is_wrong_input, *arguments)
            table = (0, 1, 1, 0, 1, 0, 0, 1)[:2 ** len(restriction)]
            self.checks(wrong.wrong_number, *arguments, support.table_like(table))
        arguments = (support.any_restriction(()), fitting_tree((), 1))
        self.judges(wrong.is_wrong_input, *arguments)
        self.checks(wrong.wrong_number, *arguments, support.table_like((1,)))
        # The form comes ahead of the depth.
        self.refuses(errors.InvalidTree, None, wrong.wrong_input, (0, 2), (0, 0, 1))
        self.refuses(errors.Refused, ("deep",), wrong.wrong_input, (0, 2), (1, 0, 0))
        self.refuses(errors.Refused, ("deep",), wrong.wrong_input, (), 0)


class TestPlans(support.Case):
    """[13.2]"""

    def low_trees(self, n, depth):
        every = reference.trees(list(range(n)), min(depth, 1))
        more = [reference.random_tree(CHANCE, list(range(n)), 0.2) for _ in range(30)]
        return every + [tree for tree in more if reference.depth(tree) <= depth]

    def test_by_plans(self):
        for n in range(4):
            tables = reference.tables(n) if n < 3 else CHANCE.sample(reference.tables(3), 60)
            for table in tables:
                for depth in range(reference.least_depth(table)):
                    plan = least.least_answer(table, depth)[1]
                    for tree in self.low_trees(n, depth):
                        rows = reference.inputs(n)
                        right = [row for row in rows if reference.tree_value(tree, row) != reference.value(table, row)]
                        self.assertIn(wrong.unlike_by(table, depth, plan, tree), right)

    def test_is_unlike(self):
        for n in range(4):
            for _ in range(60):
                table = tuple(CHANCE.randrange(2) for _ in range(2 ** n))
                tree = reference.random_tree(CHANCE, list(range(n)))
                rows = reference.inputs(n)
                right = [row for row in rows if reference.tree_value(tree, row) != reference.value(table, row)]
                others = [row for row in rows if row not in right] + [(0,) * (n + 1), (2,) * n or None]
                self.takes_just(wrong.is_unlike, (table, tree), right, others)

    def test_any_plan(self):
        """Plans that the program itself would not give."""
        for table, tree in itertools.product(((0, 1, 1, 0), (1, 0, 0, 1)), ((0, 0, 1), (1, 0, 1), (0, 1, 0), 0, 1)):
            rows = reference.inputs(2)
            right = [row for row in rows if reference.tree_value(tree, row) != reference.value(table, row)]
            for one, other in itertools.product((0, 1), repeat=2):
                plan = {(2, 2): (one, other), (one, 2): (), (2, other): ()}
                self.assertIn(wrong.unlike_by(table, 1, plan, tree), right)

    def test_arguments(self):
        table, plan = (0, 1, 1, 0), {(2, 2): (0, 1), (0, 2): (), (2, 1): ()}
        bad = [None, True, 0, (), [], "", {}, {(2, 2): ()}, {(2, 2): (0, 0), (0, 2): (), (2, 1): ()}, {(2,): ()},
            {(): ()}]
        bad += [{**plan, (2, 2): [0, 1]}, {**plan, (2, 2): (False, 1)}, {**plan, (0, 2): None},
            {(2, 2): (0, 1), (0, 2): ()}]
        bad += [[plan], ("plan", plan), {**plan, None: ()}, {**plan, (2, 2): (0, 1, 1)}, {**plan, (0, 0): ()}, 10 ** 10]
        trees = support.tree(2, (0, 0, 1))
        trees.wrong += [(0, 0, (1, 0, 1)), (1, (0, 0, 0), 1)]
        depth = support.number(1, 0, 10)
        self.checks(wrong.unlike_by, support.table(table), depth,
            support.Argument(plan, errors.InvalidOperation, bad), trees)
        for other in (0, 2, 3, 10):
            self.refuses(errors.InvalidOperation, None, wrong.unlike_by, table, other, plan, 0)
        self.refuses(errors.InvalidOperation, None, wrong.unlike_by, (0, 0, 0, 0), 1, plan, 0)
        self.judges(wrong.is_unlike, support.table(table), support.tree(2, (0, 0, (1, 0, 1))))
        self.judges(wrong.is_unlike, support.table((1,)), support.tree(0, 1))

    def test_limit(self):
        """[5.2]'s limit comes last, and does not bar the judge."""
        for n in (9, 10):
            odd = reference.table_by(n, reference.sum_of)
            plan = {(2,) * n: ()}
            self.refuses(errors.TooMany, 256, wrong.unlike_by, odd, 0, plan, 0)
            self.refuses(errors.InvalidTree, None, wrong.unlike_by, odd, 0, plan, (0, 0, 1))
            self.refuses(errors.InvalidTree, None, wrong.unlike_by, odd, 0, plan, (n, 0, 1))
            self.refuses(errors.InvalidOperation, None, wrong.unlike_by, odd, 0, {(2,) * 8: ()}, 0)
            self.refuses(errors.InvalidOperation, None, wrong.unlike_by, odd, 1, plan, 0)
            self.assertIs(wrong.is_unlike(odd, (0, 0, 1), (1,) * 2 + (0,) * (n - 2)), True)
            self.assertIs(wrong.is_unlike(odd, (0, 0, 1), (1,) + (0,) * (n - 1)), False)
        odd = reference.table_by(8, reference.sum_of)
        self.assertEqual(sum(wrong.unlike_by(odd, 0, {(2,) * 8: ()}, 0)) % 2, 1)


class TestFormulas(support.Case):
    """[13.3]"""

    def test_answers(self):
        for n in range(4):
            odd = tuple(tuple(enumerate(row)) for row in reference.inputs(n) if sum(row) % 2)
            for formula in reference.some_formulas(n, 12, 51) + [odd]:
                for restriction in reference.restrictions(n):
                    self.check(n, formula, restriction)

    def check(self, n, formula, restriction):
        free = restriction.count(2)
        code = reference.code_for(restriction, formula, free)
        rows = reference.inputs(n)
        there = [
            row for row in reference.fitting(restriction)
            if reference.formula_value(formula, row) != reference.sum_of(row)
        ]
        answer = wrong.formula_answer(restriction, formula)
        judge = (wrong.is_formula_answer, (restriction, formula))
        if code is None:
            right = [("wrong", row) for row in there]
            self.assertIn(answer, right)
            self.assertEqual(len(there), 2 ** (free - 1))
            others = [("wrong", row) for row in rows if row not in there] + [("deep", (restriction, ()))]
            self.takes_just(*judge, right, others)
        else:
            self.assertEqual(answer, ("deep", code))
            self.assertNotIn(2, code[0])
            others = [("wrong", row) for row in rows] + [("deep", (code[1], code)), ("deep", None), ("code", code)]
            others += [("deep", (other, code[1])) for other in reference.restrictions(n) if other != code[0]]
            others += [("deep", (code[0], code[1] + ((0, 0, 1),)))]
            self.takes_just(*judge, [answer], others)

    def test_arguments(self):
        for restriction, formula in (((2, 0, 2), PAIR), ((2, 2, 2), PAIR), ((1, 1), ((),)), ((), ())):
            arguments = (support.any_restriction(restriction), support.formula(len(restriction), formula))
            self.checks(wrong.formula_answer, *arguments)
            self.judges(wrong.is_formula_answer, *arguments)


class TestRefuted(support.Case):
    """[13.4], [0.16]"""

    def walks(self):
        for n in range(4):
            for _ in range(120):
                layers = reference.random_layers(CHANCE, n, CHANCE.randint(1, 3))
                rounds = 1 + len(layers[2])
                free = tuple(sorted((CHANCE.randint(0, n) for _ in range(rounds)), reverse=True))
                yield n, layers, free, tuple(CHANCE.choice((1, 2, 3)) for _ in range(rounds))

    def test_refuted(self):
        ends = set()
        for n, layers, free, depths in self.walks():
            (word, row, end), _ = reference.walk(n, layers, free, depths)
            call = (n, layers, free, depths)
            rows = reference.inputs(n)
            there = [r for r in rows if reference.layers_value(layers, r) != reference.sum_of(r)]
            if word == "charged":
                ends.add(("charged", len(row)))
                self.refuses(errors.Refused, ("charged", len(row)), wrong.refuted, *call)
                self.takes_just(wrong.is_refuted, call, [], [(row, r) for r in there])
            elif reference.depth(end) == free[-1]:
                ends.add("deep")
                self.refuses(errors.Refused, ("deep",), wrong.refuted, *call)
                self.takes_just(wrong.is_refuted, call, [], [(row, r) for r in there])
            else:
                ends.add("wrong")
                right = [(row, r) for r in there if reference.fits(r, row[-1])]
                self.assertEqual(len(right), 2 ** (free[-1] - 1))
                self.assertIn(wrong.refuted(*call), right)
                others = [(row, r) for r in rows if (row, r) not in right]
                others += [(row[:-1], right[0][1]), ((*row, row[-1]), right[0][1])]
                self.takes_just(wrong.is_refuted, call, right, others)
        self.assertLessEqual({"deep", "wrong", ("charged", 0), ("charged", 1)}, ends)

    def test_layers_of_the_sum(self):
        """They are never refuted, whatever the numbers are."""
        for layers in (circuits.layers_of(2, PARTS), ("ors", ((((0, 0), (1, 0)), ((0, 1), (1, 1))),), ())):
            self.assertEqual(circuits.layers_table(2, layers), (0, 1, 1, 0))
            for free, depth in itertools.product(range(3), range(1, 4)):
                with self.assertRaises(errors.Refused):
                    wrong.refuted(2, layers, (free,), (depth,))

    def test_arguments(self):
        free = support.Argument((2, 1), errors.InvalidOperation,
            support.NO_TUPLES + [(2,), (1, 2), (4, 1), (2, -1), (True, 1)])
        depths = support.Argument((2, 2), errors.InvalidOperation,
            support.NO_TUPLES + [(2,), (0, 1), (11, 1), (2, 2, 2), (True, 1)])
        arguments = (support.letters(3), support.layers(3, THREE), free, depths)
        self.checks(wrong.refuted, *arguments)
        self.judges(wrong.is_refuted, *arguments)
        none = support.Argument((0,), errors.InvalidOperation, [(1,), (), None])
        one = support.Argument((1,), errors.InvalidOperation, [(0,), (), None])
        self.judges(wrong.is_refuted, support.letters(0), support.layers(0, ("ands", ((),), ())), none, one)

    def test_limits(self):
        judge = lambda *arguments: wrong.is_refuted(*arguments, None)
        term = ((0, 1),)
        for function in (wrong.refuted, judge):
            self.refuses(errors.TooMany, 60000, function, 10, ("ors", ((term,) * 4,), ()), (3,), (1,))
            self.refuses(errors.TooMany, 64, function, 7, ODD_LAYERS, (7, 7, 7), (8, 8, 8))
            self.refuses(errors.InvalidOperation, None, function, 7, ODD_LAYERS, (7, 7, 7), (8, 8, 0))
        self.refuses(errors.Refused, ("charged", 0), wrong.refuted, 7, ODD_LAYERS, (7, 7, 7), (7, 8, 8))


class TestCircuits(support.Case):
    """The inputs at which a circuit is wrong."""

    def test_wrong_of(self):
        for n in range(5):
            for _ in range(40):
                circuit = reference.random_circuit(CHANCE, n, CHANCE.randint(1, 10))
                table = reference.circuit_table(n, circuit)
                there = tuple(row for row in reference.inputs(n) if reference.value(table,
                    row) != reference.sum_of(row))
                self.assertEqual(wrong.wrong_of(n, circuit), there)
        self.assertEqual(wrong.wrong_of(2, PARTS), ())
        self.assertEqual(wrong.wrong_of(0, (("or", ()),)), ())
        self.assertEqual(wrong.wrong_of(0, (("and", ()),)), ((),))
        self.assertEqual(len(wrong.wrong_of(10, (("letter", 9, 0),))), 512)

    def test_arguments(self):
        self.checks(wrong.wrong_of, support.letters(2), support.circuit(2, PARTS))
        self.checks(wrong.wrong_of, support.letters(0), support.circuit(0, (("or", ()),)))


class TestNotTrue(support.Case):
    """[13.5]"""

    def test_wrong_at_half(self):
        tree = (0, (1, 0, 0), 1)
        odd = (0, 1, 1, 0)
        self.assertEqual(wrong.wrong_number((2, 2), tree, odd), 2)
        self.refuses(errors.Refused, ("deep",), wrong.wrong_input, (2, 2), tree)
        self.takes_just(wrong.is_wrong_input, ((2, 2), tree), [(0, 1), (1, 1)], [(0, 0), (1, 0)])

    def test_a_code_for_all_letters(self):
        formula = (((0, 1), (1, 1)),)
        self.assertEqual(wrong.formula_answer((2, 2), formula), ("deep", codes.code_of((2, 2), formula, 2)))
        self.assertIs(wrong.is_formula_answer((2, 2), formula, ("wrong", (1, 1))), False)
        self.assertIs(wrong.is_wrong_input((2, 2), (0, 0, (1, 0, 1)), (1, 1)), True)

    def test_charged_and_wrong(self):
        layers = ("ands", ((((0, 1), (1, 1)),),), ())
        self.assertEqual(lowered.walk(2, layers, (2,), (2,))[0], "charged")
        self.assertEqual([row for row in reference.inputs(2) if circuits.layers_value(2, layers, row) != sum(row) % 2],
                         [(1, 0), (0, 1), (1, 1)])
        self.assertIs(wrong.is_refuted(2, layers, (2,), (2,), ((), (1, 1))), False)


if __name__ == "__main__":
    unittest.main()
