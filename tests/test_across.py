"""What goes across the stages: one formula, the sum of the letters, and codes, seen by all roads."""

import itertools
import math
import random
import unittest

import reference
import support
from deepcodes import errors
from deepcodes.canon import canonical, codes, counts, switched
from deepcodes.circuits import circuits, lowered, wrong
from deepcodes.judge import answers, judge
from deepcodes.letters import rows, terms
from deepcodes.several import several
from deepcodes.small import rects, shrink, thirds
from deepcodes.sums import blocks, leastsum
from deepcodes.told import restrictions
from deepcodes.trees import least, trees
from deepcodes.use import bench, texts
from deepcodes.waves import turns, waves

CHANCE = random.Random(9191)
DEEP = (((0, 1), (1, 1)), ((1, 1), (2, 1), (3, 1)), ((1, 0), (4, 1), (5, 1)))
FREE, SHUT = (2,) * 6, (0, 2, 2, 2, 2, 2)


def some_formulas(n, many=6):
    whole = [tuple(tuple(enumerate(row)) for row in reference.inputs(n) if sum(row) % 2)]
    return reference.some_formulas(n, many, 111) + whole


class TestOneFormula(support.Case):
    """[0.15], [2.2], [4.2], [5.1], [6.1], [7.3], [8.2], [8.3], [16.5], [16.6]"""

    def test_from_trees_to_weights(self):
        for n in range(4):
            for formula in some_formulas(n):
                table = terms.formula_table(n, formula)
                for free, s in itertools.product(range(n + 1), range(n + 2)):
                    self.check_level(n, formula, table, free, s)

    def check_level(self, n, formula, table, free, s):
        """The restrictions with so many free letters, counted by trees, codes, papers, least trees and waves."""
        every = restrictions.restrictions(n, free)
        deep = [r for r in every if canonical.canonical_depth(r, formula) >= s]
        told = codes.codes_at(n, formula, free, s)
        self.assertEqual(tuple(told), tuple(deep))
        self.assertEqual(counts.deep_restrictions(n, formula, free, s), tuple(deep))
        self.assertEqual(len(set(told.values())), len(deep))
        for restriction, code in told.items():
            self.assertEqual(codes.led_back(n, formula, code), restriction)
            self.assertIs(codes.is_code(n, formula, s, code), True)
            self.assertIs(judge.takes(("deep", restriction, formula, s), code), True)
        number, bound, behind, many = counts.count_paper(n, formula, free, s)
        self.assertEqual((number, many), (len(deep), len(every)))
        self.assertLessEqual(number, bound * behind)
        if s <= free:
            firsts = restrictions.restrictions(n, free - s)
            self.assertEqual(sum(len(counts.rows_at(first, formula, s)) for first in firsts), number)
        low, _ = answers.answered(("some", n, formula, free, s))
        self.assertEqual(low[0], "some" if len(deep) < len(every) else "none")
        self.assertEqual(counts.good_or_codes(n, formula, free, s)[0], "good" if low[0] == "some" else "codes")
        # Least trees are no deeper than canonical ones, and the waves weigh no more than they let.
        self.assertLessEqual(waves.deep_number(table, free, s), number)
        self.assertLessEqual(waves.deep_weight(table, free, s), 2 ** (n + free) * waves.deep_number(table, free, s))
        paper = waves.weight_paper(table, free, s)
        self.assertEqual(sum(square for _, square in paper) * 2 ** (n - free), waves.deep_weight(table, free, s))
        self.assertLessEqual(switched.stiff_number(n, formula, free, s), number)

    def test_under_each_restriction(self):
        for n in range(4):
            for formula in some_formulas(n):
                table = terms.formula_table(n, formula)
                for restriction in reference.restrictions(n):
                    self.check_under(n, formula, table, restriction)

    def check_under(self, n, formula, table, restriction):
        tree = canonical.canonical_tree(restriction, formula)
        depth = canonical.canonical_depth(restriction, formula)
        under = restrictions.table_under(table, restriction)
        self.assertEqual(trees.depth_of(n, tree), depth)
        self.assertEqual(restrictions.table_under(trees.table_of(n, tree), restriction), under)
        self.assertEqual(restrictions.table_under(trees.table_of(n, trees.tree_under(n, tree, restriction)), restriction),
                         under)
        lefts = terms.lefts(restriction, formula)
        self.assertEqual(restrictions.table_under(terms.formula_table(n, lefts), restriction), under)
        self.assertLessEqual(least.least_depth(under), depth)
        self.assertLessEqual(waves.degree(under), least.least_depth(under))
        self.assertEqual(switched.grades(restriction, formula)[2:], (least.least_depth(under), depth))
        self.assertEqual(max(switched.least_widths(under)), max(least.certificate_sizes(under)))
        found = waves.waves_under(restriction, table)
        self.assertEqual(list(found.values()), list(waves.waves(under).values()))
        for s in range(n + 2):
            answer = codes.canon_answer(restriction, formula, s)
            self.assertEqual(answer[0], "tree" if depth < s else "code")
            told, paper = answers.answered(("low", restriction, formula, s))
            self.assertEqual((told[0], paper), ("low" if depth < s else "deep", answer[1]))
            self.assertEqual(several.common_depth(restriction, (formula,), 1) >= s, depth >= s)
            self.check_bench(n, formula, restriction, s)
        # The ways to 1 are a formula of the table, and those to 0 a coformula.
        self.assertEqual(restrictions.table_under(terms.formula_table(n, trees.formula_of(n, tree)), restriction), under)
        some = terms.coformula_table(n, trees.coformula_of(n, tree))
        self.assertEqual(restrictions.table_under(some, restriction), under)

    def check_bench(self, n, formula, restriction, s):
        some = bench.Bench(n)
        for line in texts.formula_text(n, formula).split("\n")[:-1]:
            some.tell("term " + line.replace(" ", ","))
        for letter, member in enumerate(restriction):
            if member != 2:
                some.tell(f"tell {letter} {member}")
        self.assertEqual((some.formula, some.restriction), (formula, restriction))
        self.assertEqual(some.tell("depth"), f"depth {canonical.canonical_depth(restriction, formula)}")
        code = codes.code_of(restriction, formula, s)
        if code is None:
            self.assertEqual(some.tell(f"code {s}"), f"tree below {s}")
        else:
            text = texts.code_text(code)
            self.assertEqual(some.tell(f"code {s}"), "code " + text[:-1].replace(" ", ".").replace("\n", " "))

    def test_one_of_several(self):
        """With t of 1 the common tree of one formula asks what the canonical one asks, and its code leads back."""
        for n in range(4):
            for formula in some_formulas(n, 5):
                for restriction in reference.restrictions(n):
                    for s in range(n + 1):
                        code = several.common_code(restriction, (formula,), 1, s)
                        self.assertEqual(code is None, codes.code_of(restriction, formula, s) is None)
                        if code is not None:
                            self.assertEqual(several.common_back(n, (formula,), code), restriction)
                            self.assertEqual(codes.code_of(restriction, formula, s)[0], code[0])

    def test_great_formulas(self):
        """Six letters and more: codes lead back, and the numbers stay below their bounds."""
        for n, formula in ((6, DEEP), (8, tuple(reference.random_term(CHANCE, 8, 3) for _ in range(6)))):
            table = terms.formula_table(n, formula)
            for free, s in ((n, 3), (n - 1, 2), (2, 2)):
                told = codes.codes_at(n, formula, free, s)
                for restriction, code in told.items():
                    self.assertEqual(codes.led_back(n, formula, code), restriction)
                    self.assertEqual(texts.read_code(texts.code_text(code)), code)
                self.assertLessEqual(waves.deep_number(table, free, s), len(told))
                number, bound, behind, _ = counts.count_paper(n, formula, free, s)
                self.assertEqual(number, len(told))
                self.assertLessEqual(number, bound * behind)

    def test_what_is_not_true(self):
        """[0.17]"""
        self.assertLess(canonical.canonical_depth(FREE, DEEP), canonical.canonical_depth(SHUT, DEEP))
        pair = (((0, 1), (1, 0)), ((1, 1),))
        self.assertEqual(terms.alike_answer(2, pair, pair[::-1]), ("alike",))
        free = (2, 2)
        self.assertNotEqual(canonical.canonical_tree(free, pair), canonical.canonical_tree(free, pair[::-1]))


class TestCodes(support.Case):
    """Codes by all roads, read back from their texts, too: [0.15], [6.4], [7.3], [8.2], [21.3]"""

    def test_roads(self):
        for n in range(4):
            for formula in some_formulas(n, 5):
                for restriction in reference.restrictions(n):
                    for s in range(n + 1):
                        self.check(n, formula, restriction, s)

    def check(self, n, formula, restriction, s):
        code = codes.code_of(restriction, formula, s)
        if code is None:
            self.assertIs(judge.is_claim(("low", restriction, formula, s)), True)
            self.assertEqual(answers.answered(("deep", restriction, formula, s))[0][0], "low")
            return
        row = canonical.deep_row(restriction, formula, s)
        self.assertEqual(codes.code_along(restriction, formula, row), code)
        read = texts.read_code(texts.code_text(code))
        self.assertEqual(codes.led_back(n, formula, read), restriction)
        self.assertEqual(texts.read_restriction(texts.restriction_text(read[0])), code[0])
        self.assertIn(code[1], counts.rows_at(code[0], formula, s))
        self.assertIs(counts.is_row(terms.width_of(n, formula), s, code[1]), True)
        self.assertIs(switched.is_switched(restriction, formula, s, ("code", code)), True)
        self.assertIs(judge.takes(("deep", restriction, formula, s), read), True)
        charge = lowered.charge_of(n, ("ands", (formula,), ()), restriction, s)
        self.assertEqual(charge, (0, code))
        turned = ("ors", (terms.turned(n, formula),), ())
        self.assertEqual(lowered.charge_of(n, turned, restriction, s), (0, code))
        indices = tuple(index for index, _ in canonical.pieces(restriction, formula, row))
        self.assertEqual(codes.terms_back(n, formula, code), indices)
        # Only used terms come first, so without the others the same letters are asked.
        short = canonical.shortened(n, formula)
        self.assertLessEqual(set(indices), set(canonical.used_terms(n, formula)))
        self.assertEqual(canonical.canonical_tree(restriction, short), canonical.canonical_tree(restriction, formula))
        again = codes.code_of(restriction, short, s)
        self.assertEqual(again, code)
        self.assertEqual(codes.led_back(n, short, again), restriction)

    def test_papers_along_any_beginning(self):
        for n in (2, 3):
            for formula in some_formulas(n, 5):
                for restriction in reference.restrictions(n):
                    for row in reference.beginnings(restriction, formula):
                        code = codes.code_along(restriction, formula, row)
                        self.assertIs(codes.is_along(n, formula, code), True)
                        self.assertEqual(codes.led_back(n, formula, code), restriction)
                        claim = ("deep", restriction, formula, len(row))
                        self.assertIs(judge.takes(claim, texts.read_code(texts.code_text(code))), True)
                        self.assertIs(codes.is_canon_answer(restriction, formula, len(row), ("code", code)), True)


class TestTheSum(support.Case):
    """The sum of the letters by all roads: [0.15], [0.16], [13.4], [14.6], [15.3]"""

    def test_tables(self):
        for n in range(8):
            odd = rows.sum_table(n)
            self.assertEqual(odd, reference.table_by(n, reference.sum_of))
            self.assertEqual(terms.formula_table(n, leastsum.sum_formula(n)), odd)
            self.assertEqual(terms.coformula_table(n, leastsum.sum_coformula(n)), odd)
            self.assertEqual(trees.table_of(n, leastsum.sum_tree(n)), odd)
            self.assertEqual(shrink.bush_table(n, shrink.sum_bush(n)), odd)
            self.assertEqual(rows.sum_answer(odd), ("sum",))
            self.assertEqual(thirds.row_of(n, thirds.polynomial_of(n, odd)), odd)
            self.assertEqual(turns.wrong_inputs(odd), ())

    def test_great_depth_and_width(self):
        for n in range(9):
            odd = rows.sum_table(n)
            self.assertEqual([waves.degree(odd), least.least_depth(odd)], [n, n])
            self.assertEqual(waves.wave(odd, tuple(range(n))), 2 ** n)
            self.assertEqual(waves.weights(odd), (0,) * n + (4 ** n,))
            self.assertEqual(switched.least_widths(odd), (n, n) if n else (0, 0))
            self.assertEqual(least.certificate_sizes(odd), (n, n if n else 0))
            self.assertEqual([turns.turn_number(odd), turns.border_number(odd)], [n * 2 ** n, 0])
            self.assertEqual(thirds.degree_of(n, thirds.polynomial_of(n, odd)), n)
            if n:
                self.assertEqual(least.least_answer(odd, n - 1)[0], "plan")
                self.assertEqual(answers.answered(("asked", odd, n - 1))[0][0], "open")
                self.assertEqual(answers.answered(("narrow", odd, 1, n - 1))[0][0], "wide")
                self.assertEqual(rects.rect_paper(odd)[3], n * n)
                self.assertGreater(turns.least_wrong(n, n - 1, 2 ** (n - 1)), 0)
                self.assertEqual(turns.least_wrong(n, n, 2 ** (n - 1)), 0)
            if 1 <= n <= 6:
                self.assertEqual([turns.width_answer(odd, width)[0] for width in (n - 1, n)], ["input", "formula"])

    def test_agreement(self):
        """[16.6]: tables agree with the sum as often as their greatest wave tells."""
        for n in range(6):
            for _ in range(20):
                table = tuple(CHANCE.randrange(2) for _ in range(2 ** n))
                whole = waves.wave(table, tuple(range(n)))
                self.assertEqual(2 * rows.agreement(table), 2 ** n + whole)
                self.assertEqual(2 ** n - rows.agreement(table), len(turns.wrong_inputs(table)))
                for m in range(n + 1):
                    if math.comb(n, m) * 2 ** (n - m) * 3 ** m <= 60000:
                        self.assertLessEqual(whole * whole * math.comb(n, m), waves.deep_weight(table, m, m))

    def test_formulas_under_restrictions(self):
        """[14.6]: canonical trees are as deep as letters are free, so each restriction has a code."""
        for n in range(5):
            formula = list(leastsum.sum_formula(n))
            CHANCE.shuffle(formula)
            for restriction in reference.restrictions(n):
                free = restriction.count(2)
                self.assertEqual(canonical.canonical_depth(restriction, tuple(formula)), free)
                self.assertEqual(wrong.formula_answer(restriction, tuple(formula))[0], "deep")
            for free in range(n + 1):
                self.assertEqual(counts.deep_number(n, tuple(formula), free, free), restrictions.how_many(n, free))
                self.assertEqual(waves.deep_number(rows.sum_table(n), free, free), restrictions.how_many(n, free))

    def test_circuits_by_blocks(self):
        """[15.3], [13.4]: they tell the sum, so no walk refutes their layers."""
        for n, sizes in ((1, ()), (2, (2,)), (3, (3,)), (3, (2, 2)), (4, (2, 2)), (4, (4,)), (5, (5,))):
            circuit = blocks.sum_circuit(n, sizes)
            self.assertEqual(circuits.circuit_table(n, circuit), rows.sum_table(n))
            self.assertEqual(texts.read_circuit(n, texts.circuit_text(n, circuit)), circuit)
            self.assertEqual(answers.answered(("sums", n, circuit)), (("sums", n, circuit), ()))
            self.assertEqual(wrong.wrong_of(n, circuit), ())
            if (len(circuit) + sum(len(line[1]) for line in circuit if line[0] != "letter")) << n <= 60000:
                some = thirds.good_factors(n, circuit, 1)
                self.assertEqual(thirds.sum_answer(n, circuit, some)[0], "charged")
            layers = circuits.layers_of(n, circuit)
            rounds = 1 + len(layers[2])
            for free in itertools.combinations_with_replacement(range(n, -1, -1), rounds):
                for depths in itertools.product((1, 2, 3), repeat=rounds):
                    self.check_walk(n, layers, free, depths)

    def check_walk(self, n, layers, free, depths):
        """A round in which all are charged, or a tree as deep as letters are left."""
        found = lowered.walk(n, layers, free, depths)
        if found[0] == "tree":
            self.assertEqual(trees.depth_of(n, found[2]), free[-1])
            self.refuses(errors.Refused, ("deep",), wrong.refuted, n, layers, free, depths)
        else:
            looked_at = lowered.told_more(found[1][-1] if found[1] else (2,) * n, free[len(found[1])])
            self.assertEqual(len(found[2]), len(looked_at))
            self.assertEqual(len(set(found[2])), len(found[2]))
            self.refuses(errors.Refused, ("charged", len(found[1])), wrong.refuted, n, layers, free, depths)
        told, paper = answers.answered(("led", n, layers, free, depths))
        self.assertEqual(told[0], "led" if found[0] == "tree" else "stuck")
        self.assertIs(judge.takes(told, paper), True)

    def test_bushes(self):
        """A bush with too few leaves is wrong where it is led; one with the sum has n * n leaves at least."""
        for n in range(1, 7):
            square, many = rects.sum_bounds(n)
            self.assertLessEqual(square, many)
            self.assertGreaterEqual(square, shrink.least_leaves(n))
            bush = reference.random_bush(CHANCE, n, max(1, shrink.least_leaves(n) - 1))
            if len(reference.bush_leaves(bush)) < shrink.least_leaves(n):
                literals, row = shrink.led_answer(n, bush)
                table = shrink.bush_table(n, bush)
                self.assertIn(row, turns.wrong_inputs(table))
                told = restrictions.with_literals((2,) * n, literals)
                self.assertEqual(len(set(restrictions.table_under(table, told))), 1)

    def test_trees(self):
        for n in range(6):
            tree = leastsum.sum_tree(n)
            self.assertEqual(turns.way_sum(n, tree), n * 2 ** n)
            self.assertEqual(texts.read_tree(n, texts.tree_text(n, tree)), tree)
            self.assertIs(judge.takes(("asked", rows.sum_table(n), n), tree), True)


class TestOtherCircuits(support.Case):
    """Circuits that are not the sum, led down and refuted: [0.15], [0.16], [13.4]"""

    def test_refuted(self):
        kinds = set()
        for n in range(1, 5):
            for _ in range(40):
                circuit = reference.random_circuit(CHANCE, n, CHANCE.randint(2, 12))
                if circuits.circuit_depth(n, circuit) > 8:
                    continue
                try:
                    layers = circuits.layers_of(n, circuit)
                except errors.TooMany:
                    continue
                self.assertIs(circuits.are_layers_of(n, circuit, layers), True)
                self.assertEqual(circuits.layers_table(n, layers), circuits.circuit_table(n, circuit))
                rounds = 1 + len(layers[2])
                free = tuple(sorted((CHANCE.randint(1, n) for _ in range(rounds)), reverse=True))
                depths = tuple(CHANCE.choice((1, 2, 3)) for _ in range(rounds))
                kinds.add(self.check(n, circuit, layers, free, depths))
        self.assertLessEqual({"refuted", "deep", "charged"}, kinds)

    def check(self, n, circuit, layers, free, depths):
        told, paper = answers.answered(("stuck", n, layers, free, depths))
        self.assertIs(judge.takes(told, paper), True)
        try:
            row, found = wrong.refuted(n, layers, free, depths)
        except errors.Refused as error:
            self.assertEqual(told[0], "led" if error.reason[0] == "deep" else "stuck")
            return error.reason[0]
        self.assertEqual((told[0], tuple(here for _, here in paper[0])), ("led", row))
        self.assertIs(wrong.is_refuted(n, layers, free, depths, (row, found)), True)
        # The input shows it of the circuit itself, by each road.
        self.assertIn(found, wrong.wrong_of(n, circuit))
        self.assertIn(found, turns.wrong_inputs(circuits.circuit_table(n, circuit)))
        self.assertIs(judge.takes(("errs", n, circuit), found), True)
        some = thirds.good_factors(n, circuit, 1)
        self.assertIs(thirds.is_sum_answer(n, circuit, some, ("input", found)), True)
        self.assertEqual(answers.answered(("sums", n, circuit))[0][0], "errs")
        there = [wrong_row for wrong_row in wrong.wrong_of(n, circuit) if reference.fits(wrong_row, row[-1])]
        self.assertEqual(len(there), 2 ** (free[-1] - 1))
        return "refuted"

    def test_another_beginning(self):
        """[0.17]: what is led down by the first good restriction is stuck behind another good one."""
        layers = ("ands", ((((1, 1),),),), (((0,),),))
        self.assertEqual(lowered.walk(2, layers, (1, 1), (2, 1)), ("tree", ((2, 0), (2, 0)), 0))
        other = (0, 2)
        self.assertIsNone(lowered.charge_of(2, layers, other, 2))
        left = lowered.lowered(2, layers, other, 2)
        self.assertEqual(lowered.told_more(other, 1), (other,))
        self.assertIsNotNone(lowered.charge_of(2, left, other, 1))


if __name__ == "__main__":
    unittest.main()
