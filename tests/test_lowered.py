import itertools
import math
import random
import unittest

import reference
import support
from deepcodes import errors
from deepcodes.canon import codes
from deepcodes.circuits import circuits, lowered

CHANCE = random.Random(1212)
THREE = ("ands", ((((0, 1), (1, 1)), ((2, 1),)), (((0, 0),),)), (((0, 1),),))
PAIR = (((0, 1), (1, 0)), ((1, 1),), ((0, 1), (1, 0), (2, 1)))
ONE_ROUND = ("ors", (PAIR,), ())
# All letters are asked along each way, and half of the 128 ways end with 0.
ODD = tuple(tuple(enumerate(row)) for row in reference.inputs(7) if sum(row) % 2)
ODD_LAYERS = ("ands", (ODD, (((0, 1),),)), (((0,), (0, 1)), ((0,),)))


def some_layers(most=3, many=25, rounds=4):
    for n in range(most + 1):
        for word, formula in itertools.product(("ands", "ors"), ((), ((),))):
            yield n, (word, (formula,), ())
            yield n, (word, (formula, ()), (((0, 1), ()), ((0, 1),)))
        for _ in range(many):
            yield n, reference.random_layers(CHANCE, n, CHANCE.randint(1, rounds))


def numbers(good, n, rounds):
    """The argument `free` of walks."""
    wrong = support.NO_TUPLES + list(support.disguised(good)) + [good[:-1], (*good, 0), list(good), (n + 1, *good[1:])]
    wrong += [(*good[:-1], -1), (*good[:-1], None), (*good[:-1], "0"), (10 ** 10,) * rounds, (-1,) * rounds,
        ((),) * rounds]
    wrong += [(0, 1) + good[2:]] if rounds > 1 else []
    wrong += [good[:-2] + (good[-2], good[-2] + 1)] if rounds > 1 else []
    return support.Argument(good, errors.InvalidOperation, wrong)


def depth_numbers(good):
    wrong = support.NO_TUPLES + list(support.disguised(good)) + [good[:-1], (*good, 1), list(good)]
    wrong += [(*good[:-1], each) for each in (0, -1, 11, None, "1", 10 ** 10, True, (1,))]
    wrong += [(0, *good[1:]), (11, *good[1:])]
    return support.Argument(good, errors.InvalidOperation, wrong)


class TestBottoms(support.Case):
    """[12.1]"""

    def test_bottoms(self):
        for n, layers in some_layers():
            for gate, formula in enumerate(layers[1]):
                bottom = lowered.bottom_of(n, layers, gate)
                self.assertEqual(bottom, reference.bottom(layers, gate))
                for row in reference.inputs(n):
                    value = reference.formula_value(bottom, row)
                    if layers[0] == "ands":
                        self.assertEqual(value, reference.formula_value(formula, row))
                    else:
                        self.assertEqual(value, 1 - reference.coformula_value(formula, row))

    def test_charges(self):
        for n, layers in some_layers(3, 12, 2):
            bottoms = reference.bottoms(layers)
            for restriction in reference.restrictions(n):
                for s in (*range(n + 2), 10):
                    every = {gate: reference.code_for(restriction, bottoms[gate], s) for gate in range(len(bottoms))}
                    right = [(gate, code) for gate, code in every.items() if code is not None] or [None]
                    wrong = [(gate, code) for gate in every for code in every.values() if (gate, code) not in right]
                    wrong += [None] if right != [None] else []
                    wrong += [(len(bottoms), code) for code in every.values()] + [(-1, code) for code in every.values()]
                    self.assertIn(lowered.charge_of(n, layers, restriction, s), right)
                    self.takes_just(lowered.is_charge, (n, layers, restriction, s), right, wrong)

    def test_just_the_code(self):
        along = codes.code_along((2, 2, 2), PAIR, ((0, 1), (1, 1)))
        right = [(0, codes.code_of((2, 2, 2), PAIR, 2))]
        self.takes_just(lowered.is_charge, (3, ("ands", (PAIR,), ()), (2, 2, 2), 2), right,
            [(0, along), (1, right[0][1])])

    def test_arguments(self):
        for n, layers, restriction in ((3, THREE, (2, 0, 2)), (0, ("ors", ((),), ()), ()), (3, ONE_ROUND, (2, 2, 2))):
            first = (support.letters(n), support.layers(n, layers))
            self.checks(lowered.bottom_of, *first, support.number(0, 0, len(layers[1]) - 1))
            for s in (0, 1, 3):
                arguments = (*first, support.restriction(restriction), support.number(s, 0, 10))
                self.checks(lowered.charge_of, *arguments)
                self.judges(lowered.is_charge, *arguments)


class TestToldMore(support.Case):
    """[12.3]"""

    def test_told_more(self):
        for n in range(5):
            for restriction in reference.restrictions(n):
                for free in range(restriction.count(2) + 1):
                    wanted = tuple(reference.behind_all(restriction, free))
                    self.assertEqual(lowered.told_more(restriction, free), wanted)

    def test_many(self):
        found = lowered.told_more((2,) * 10, 3)
        self.assertEqual(len(found), 15360)
        self.assertEqual(found[0], (2, 2, 2) + (0,) * 7)

    def test_arguments(self):
        self.checks(lowered.told_more, support.any_restriction((2, 0, 2)), support.number(1, 0, 2))
        self.checks(lowered.told_more, support.any_restriction(()), support.number(0, 0, 0))


class TestLowered(support.Case):
    """[12.2]"""

    def test_lowered(self):
        done = 0
        for n, layers in some_layers(4, 40):
            for restriction in CHANCE.sample(reference.restrictions(n), min(3 ** n, 9)):
                for s in range(n + 2):
                    gates = reference.deep_gates(layers, restriction, s)
                    call = (lowered.lowered, n, layers, restriction, s)
                    if not layers[2]:
                        self.refuses(errors.Refused, ("rounds",), *call)
                    elif gates:
                        self.refuses(errors.Refused, ("deep", gates[0]), *call)
                    else:
                        done += self.check(n, layers, restriction, s)
        self.assertGreater(done, 500)

    def check(self, n, layers, restriction, s):
        found = lowered.lowered(n, layers, restriction, s)
        self.assertEqual(found, reference.lowered(layers, restriction))
        self.assertIs(circuits.are_layers(n, found), True)
        self.assertEqual({found[0], layers[0]}, {"ands", "ors"})
        self.assertEqual(found[2], layers[2][1:])
        for formula in found[1]:
            self.assertLess(reference.width(formula), s)
            self.assertEqual(len(set(formula)), len(formula))
        for row in reference.fitting(restriction):
            self.assertEqual(reference.layers_value(found, row), reference.layers_value(layers, row))
        return 1

    def test_each_clause_once_at_its_first_place(self):
        layers = ("ands", ((((0, 1),), ((1, 1),)), (((1, 1),),), (((0, 1),),)), (((0, 1, 2), (1, 2), ()), ((0, 1, 2),)))
        found = lowered.lowered(2, layers, (2, 2), 3)
        self.assertEqual(found[1], ((((0, 1), (1, 1)), ((1, 1),), ((0, 1),)), (((1, 1),), ((0, 1),)), ()))
        layers = ("ands", (((),), (((0, 1),),), (((0, 1),), ((1, 0),))), (((1, 2), (0, 1)), ((0,),)))
        self.assertEqual(lowered.lowered(2, layers, (0, 2), 2)[1], (((), ((1, 0),)), ((),)))

    def test_letters_as_they_are_asked(self):
        """Ways go on with other terms, so letters are not asked ascending."""
        layers = ("ands", ((((1, 1),), ((0, 1),)),), (((0,),),))
        self.assertEqual(lowered.lowered(2, layers, (2, 2), 3), ("ors", ((((0, 1), (1, 1)),),), ()))
        layers = ("ors", ((((1, 1),), ((0, 1),)),), (((0,),),))
        self.assertEqual(lowered.lowered(2, layers, (2, 2), 3), ("ands", ((((0, 1), (1, 1)),),), ()))

    def test_more_than_64(self):
        free = (2,) * 7
        one, two = lowered.lowered(7, (*ODD_LAYERS[:2], (((0,),),)), free, 8)[1][0], ("ands", (ODD,), (((0,),),))
        self.assertEqual(len(one), 64)
        self.assertEqual(lowered.lowered(7, two, free, 8)[1], (one,))
        self.refuses(errors.TooMany, 64, lowered.lowered, 7, ODD_LAYERS, free, 8)
        # The deep gate comes first, and one round alone ahead of it.
        self.refuses(errors.Refused, ("deep", 0), lowered.lowered, 7, ODD_LAYERS, free, 7)
        self.refuses(errors.Refused, ("deep", 0), lowered.lowered, 7, ODD_LAYERS, free, 0)
        self.refuses(errors.Refused, ("rounds",), lowered.lowered, 7, ("ands", (ODD,), ()), free, 7)
        # Gates that are in no lot do not count.
        self.assertEqual(len(lowered.lowered(7, ("ands", ODD_LAYERS[1], (((1,),),)), free, 8)[1][0]), 1)

    def test_deep_gates_in_no_lot(self):
        layers = ("ands", ((), (((0, 1),),)), (((0,),),))
        self.refuses(errors.Refused, ("deep", 1), lowered.lowered, 1, layers, (2,), 1)

    def test_arguments(self):
        arguments = (support.letters(3), support.layers(3, THREE), support.restriction((2, 1, 2)),
            support.number(3, 0, 10))
        self.checks(lowered.lowered, *arguments)
        self.refuses(errors.InvalidNumber, 11, lowered.lowered, 3, ONE_ROUND, (2, 2, 2), 11)
        self.refuses(errors.InvalidRestriction, None, lowered.lowered, 3, ONE_ROUND, (2, 2), 11)


class TestWalks(support.Case):
    """[12.3], [12.4], [0.16]"""

    def walks(self, most=3, many=40):
        for n, layers in some_layers(most, many):
            rounds = 1 + len(layers[2])
            for _ in range(4):
                free = tuple(sorted((CHANCE.randint(0, n) for _ in range(rounds)), reverse=True))
                yield n, layers, free, tuple(CHANCE.choice((1, 1, 2, 3, 10)) for _ in range(rounds))

    def test_walks(self):
        ends = []
        for n, layers, free, depths in self.walks():
            (word, row, end), last = reference.walk(n, layers, free, depths)
            found = lowered.walk(n, layers, free, depths)
            self.assertEqual(found[:2], (word, row))
            ends.append((word, len(row)))
            judge = (lowered.is_walk, (n, layers, free, depths))
            if word == "tree":
                self.assertEqual(found, (word, row, end))
                others = [("charged", row, ()), (word, row[:-1], end), (word, (*row, row[-1]), end)]
                others += [(word, row, other) for other in (0, 1, (0, 0, 1), (0, 1, 0)) if other != end]
                self.takes_just(*judge, [found], others)
                self.check_tree(n, layers, row[-1], end, depths[-1])
            else:
                self.check_charges(judge, found, row, end, last)
        self.assertLessEqual({("tree", 1), ("tree", 3), ("charged", 0), ("charged", 1), ("charged", 2)}, set(ends))

    def check_tree(self, n, layers, restriction, tree, depth):
        self.assertLess(reference.depth(tree), depth)
        for row in reference.fitting(restriction):
            self.assertEqual(reference.tree_value(tree, row), reference.layers_value(layers, row))

    def check_charges(self, judge, found, row, every, last):
        charges = found[2]
        self.assertEqual(len(charges), len(every))
        self.assertTrue(all(charge in right for charge, right in zip(charges, every)))
        self.assertEqual(len(set(charges)), len(charges))
        n, _, free, depths = judge[1]
        gates, most = len(last[1]), max(reference.width(bottom) for bottom in reference.bottoms(last))
        l, m, s = row[-1].count(2) if row else n, free[len(row)], depths[len(row)]
        if s <= m:
            codes_of_a_gate = math.comb(l, m - s) * 2 ** (l - m + s) * (4 * most) ** s
            self.assertLessEqual(math.comb(l, m) * 2 ** (l - m), gates * codes_of_a_gate)
            self.assertGreaterEqual(gates, lowered.gates_at_least(l, m, s, most))
        others = tuple(CHANCE.choice(right) for right in every)
        wrong = [("tree", row, 0), ("charged", row, charges[:-1]), ("charged", row, charges * 2),
            ("charged", row, None)]
        wrong += [("charged", row + ((2,) * n,), charges), ("charged", row, (*charges[:-1], None))]
        wrong += [("charged", row, charges[::-1])] if len(charges) > 1 else []
        wrong += [("charge", row, charges), ("tree", row, charges), (row, "charged", charges),
            ("charged", charges, row)]
        if len(charges) < 9:
            self.takes_just(*judge, [found, ("charged", row, others)], wrong)
        else:
            self.assertEqual([judge[0](*judge[1], value) for value in (found, ("charged", row, others))], [True, True])
            self.assertFalse([value for value in wrong if judge[0](*judge[1], value)])

    def test_charged_late(self):
        """Each round looks at what is behind the restriction that was taken last."""
        chance = random.Random(77)
        found = 0
        while found < 25:
            layers = reference.random_layers(chance, 4, 3)
            free, depths = (chance.choice((3, 4)), 2, chance.choice((1, 2))), (4, chance.choice((2, 3)), 1)
            (word, row, every), last = reference.walk(4, layers, free, depths)
            if word == "charged" and len(row) == 2 and row[0] != row[1]:
                found += 1
                answer = lowered.walk(4, layers, free, depths)
                self.assertEqual(answer[:2], (word, row))
                self.check_charges((lowered.is_walk, (4, layers, free, depths)), answer, row, every, last)

    def test_no_letters(self):
        for word, formula, end in (("ands", (), 0), ("ands", ((),), 1), ("ors", (), 1), ("ors", ((),), 0)):
            self.assertEqual(lowered.walk(0, (word, (formula,), ()), (0,), (1,)), ("tree", ((),), end))
        self.assertEqual(lowered.walk(0, ("ands", ((),), (((),),)), (0, 0), (1, 1)), ("tree", ((), ()), 1))
        self.assertEqual(lowered.walk(0, ("ands", ((),), (((0,),),)), (0, 0), (1, 1)), ("tree", ((), ()), 0))

    def test_another_good_beginning(self):
        """[0.17]: a walk behind another good first restriction can be charged."""
        layers = ("ands", ((((0, 1), (1, 1)),), (((2, 1),),)), (((0, 1),),))
        found = lowered.walk(3, layers, (2, 1), (2, 1))
        self.assertEqual(found[:2], ("tree", ((2, 0, 2), (2, 0, 0))))
        self.assertIsNone(lowered.charge_of(3, layers, (2, 1, 2), 2))
        wrong = [("tree", ((2, 1, 2), (2, 1, 0)), 0), ("tree", ((2, 0, 2), (0, 0, 2)), 0),
            ("tree", ((2, 0, 2), (2, 0, 0)), 1)]
        self.takes_just(lowered.is_walk, (3, layers, (2, 1), (2, 1)), [found], wrong)
        good_ones = [r for r in lowered.told_more((2, 2, 2), 2) if lowered.charge_of(3, layers, r, 2) is None]
        ends = set()
        for first in good_ones:
            left = lowered.lowered(3, layers, first, 2)
            ends.add(all(lowered.charge_of(3, left, r, 1) is not None for r in lowered.told_more(first, 2)))
        self.assertEqual(ends, {True, False})

    def test_great_ones(self):
        chance = random.Random(5)
        for word, free, depths in (("ands", (6, 3), (3, 3)), ("ors", (6, 2), (4, 2)), ("ands", (8, 2), (3, 3)),
            ("ors", (3, 1), (2, 2))):
            formulas = tuple(tuple(reference.random_term(chance, 10, 2) for _ in range(2)) for _ in range(2))
            layers = (word, formulas[:1] if free[0] == 3 else formulas, (((0,),),) if free[0] == 3 else (((0, 1),),))
            found = lowered.walk(10, layers, free, depths)
            self.assertIs(lowered.is_walk(10, layers, free, depths, found), True)

    def test_arguments(self):
        for n, layers, free, depths in (
            (3, THREE, (2, 1), (2, 2)), (3, ONE_ROUND, (2,), (1,)), (0, ("ors", ((),), ()), (0,), (1,)),
            (3, THREE, (3, 3), (1, 1)),
        ):
            arguments = (support.letters(n), support.layers(n, layers), numbers(free, n, len(free)),
                depth_numbers(depths))
            self.checks(lowered.walk, *arguments)
            self.judges(lowered.is_walk, *arguments)

    def test_limits(self):
        judge = lambda *arguments: lowered.is_walk(*arguments, None)
        term = ((0, 1),)
        many = ("ands", ((term,),) * 60, (tuple((at,) for at in range(60)), (tuple(range(60)),)))
        few = ("ands", ((term,),), (((0,),) * 60, (tuple(range(60)),)))
        for function in (lowered.walk, judge):
            # The first round, with the terms of all formulas; without terms they count as one.
            self.refuses(errors.TooMany, 60000, function, 10, many, (3, 3, 3), (1, 1, 1))
            self.refuses(errors.TooMany, 60000, function, 10, ("ors", ((term,) * 4,), ()), (3,), (1,))
            function(10, ("ors", ((term,) * 3,), ()), (3,), (1,))
            function(10, ("ors", ((),), ()), (3,), (1,))
            # The second round, behind a good first one: 1792 restrictions with 60 terms.
            self.refuses(errors.TooMany, 60000, function, 10, few, (8, 3, 3), (2, 2, 2))
            function(10, few, (8, 8, 8), (2, 2, 2))
            self.refuses(errors.TooMany, 64, function, 7, ODD_LAYERS, (7, 7, 7), (8, 8, 8))
            # Round by round: all are charged, or the work is too much, ahead of the clauses.
            function(7, ODD_LAYERS, (7, 7, 7), (7, 8, 8))
            self.refuses(errors.TooMany, 60000, function, 10, ODD_LAYERS, (7, 7, 7), (8, 8, 8))
            self.refuses(errors.InvalidOperation, None, function, 10, many, (3, 3, 3), (1, 1, 0))
        self.assertEqual(lowered.walk(7, ODD_LAYERS, (7, 7, 7), (7, 8, 8))[0], "charged")


class TestCounted(support.Case):
    """[12.5]"""

    def test_quotients(self):
        for l, m, s, w in itertools.product(range(11), range(11), range(11), range(1, 11)):
            if s <= m <= l:
                charges = math.comb(l, m) * 2 ** (l - m)
                codes_of_a_gate = math.comb(l, m - s) * 2 ** (l - m + s) * (4 * w) ** s
                self.assertEqual(lowered.gates_at_least(l, m, s, w), -(-charges // codes_of_a_gate))

    def test_arguments(self):
        number = support.number
        for l, m, s, w in ((10, 4, 2, 3), (5, 5, 5, 10), (0, 0, 0, 1)):
            for at, good in enumerate((l, m, s, w)):
                for wrong in number(good, 0, 10).wrong:
                    call = [l, m, s, w]
                    call[at] = wrong
                    self.refuses(errors.InvalidNumber, wrong, lowered.gates_at_least, *call)
        for call, wrong in (
            ((3, 4, 5, 0), 4), ((4, 4, 5, 0), 5), ((4, 4, 4, 0), 0), ((0, 0, 0, 0), 0), ((3, 4, 1, 1), 4),
            ((4, 2, 3, 1), 3),
            ((3, 4, 11, 0), 11), ((3, 4, 5, -1), -1), ((3, 4, None, 11), None), ((11, 12, 13, 14), 11),
        ):
            self.refuses(errors.InvalidNumber, wrong, lowered.gates_at_least, *call)


if __name__ == "__main__":
    unittest.main()
