import itertools
import math
import random
import unittest

import reference
import support
from deepcodes import errors
from deepcodes.letters import terms
from deepcodes.waves import turns

CHANCE = random.Random(1717)
BOTH, ODD = (0, 0, 0, 1), (0, 1, 1, 0)


def random_table(n):
    return tuple(CHANCE.randrange(2) for _ in range(2 ** n))


def some_tables(most=4):
    for n in range(most + 1):
        every = reference.tables(n) if n < 3 else [random_table(n) for _ in range(25)]
        yield from ((n, table) for table in every)


class TestTurns(support.Case):
    """[17.1]"""

    def test_turns(self):
        for n, table in some_tables():
            every = reference.turns(table)
            for row in reference.inputs(n):
                self.assertEqual(turns.turns_at(table, row), tuple(letter for at, letter in every if at == row))
            counts = tuple(len([pair for pair in every if pair[1] == letter]) for letter in range(n))
            self.assertEqual(turns.turn_counts(table), counts)
            self.assertEqual(turns.turn_number(table), len(every))
            self.assertEqual(2 * len([row for row, _ in every if reference.value(table, row)]), len(every))

    def test_great_ones(self):
        for n in range(11):
            odd = reference.table_by(n, reference.sum_of)
            self.assertEqual(turns.turn_number(odd), n * 2 ** n)
            self.assertEqual(turns.turn_counts(odd), (2 ** n,) * n)
            self.assertEqual(turns.turns_at(odd, (1,) * n), tuple(range(n)))
            self.assertEqual(turns.turn_counts((1,) * 2 ** n), (0,) * n)

    def test_few_by_width(self):
        """[17.2]"""
        for n in range(5):
            for formula in reference.some_formulas(n, 15, 71):
                width = reference.width(formula)
                for table, bit in ((reference.formula_table(n, formula), 1), (reference.coformula_table(n, formula), 0)):
                    there = [row for row in reference.inputs(n) if reference.value(table, row) == bit]
                    self.assertLessEqual(turns.turn_number(table), 2 * width * len(there))
                    for row in there:
                        self.assertLessEqual(len(turns.turns_at(table, row)), width)

    def test_few_by_ways(self):
        """[17.3]"""
        for n in range(5):
            for _ in range(25):
                tree = reference.random_tree(CHANCE, list(range(n)), CHANCE.choice((0, 0.2, 0.5)))
                lengths = {row: 0 for row in reference.inputs(n)}
                for literals, _ in reference.ways(tree):
                    for row in lengths:
                        lengths[row] += len(literals) if reference.keeps(row, literals) else 0
                self.assertEqual(turns.way_sum(n, tree), sum(lengths.values()))
                table = reference.table_by(n, lambda row: reference.tree_value(tree, row))
                self.assertLessEqual(turns.turn_number(table), turns.way_sum(n, tree))
        self.assertEqual([turns.way_sum(0, 1), turns.way_sum(3, 0), turns.way_sum(10, (9, 0, 1))], [0, 0, 1024])

    def test_arguments(self):
        table = support.table((0, 1, 1, 0, 1, 0, 0, 1))
        self.checks(turns.turns_at, table, support.row((0, 1, 0)))
        self.checks(turns.turns_at, support.table((1,)), support.row(()))
        for function in (turns.turn_counts, turns.turn_number, turns.wrong_inputs, turns.border_number):
            self.checks(function, table)
            self.checks(function, support.table((1,)))
        self.checks(turns.way_sum, support.letters(2), support.tree(2, (0, 0, (1, 0, 1))))
        self.checks(turns.way_sum, support.letters(0), support.tree(0, 1))


class TestFar(support.Case):
    """[17.4]"""

    def test_wrong_inputs(self):
        for n, table in some_tables():
            rows = reference.inputs(n)
            wrong = [row for row in rows if reference.value(table, row) != reference.sum_of(row)]
            self.assertEqual(turns.wrong_inputs(table), tuple(wrong))
            right = [row for row in rows if row not in wrong]
            border = len([pair for pair in itertools.product(wrong, right) if reference.are_neighbours(*pair)])
            self.assertEqual(turns.border_number(table), border)
            self.assertEqual(turns.turn_number(table), n * 2 ** n - 2 * border)
            self.assertLessEqual(border, n * min(len(wrong), len(right)))

    def test_least_wrong(self):
        for n in range(1, 6):
            for width, yes in itertools.product(range(n + 1), range(2 ** n + 1)):
                least = [e for e in range(2 ** n + 1) if 2 * n * e >= n * 2 ** n - 2 * width * yes][0]
                self.assertEqual(turns.least_wrong(n, width, yes), least)
        for width in range(1, 11):
            for yes in (0, 1, 100, 511, 512, 1024):
                wanted = max(0, math.ceil((10240 - 2 * width * yes) / 20))
                self.assertEqual(turns.least_wrong(10, width, yes), wanted)

    def test_narrow_formulas_are_wrong(self):
        for n in range(1, 5):
            for formula in reference.some_formulas(n, 15, 72):
                table = reference.formula_table(n, formula)
                least = turns.least_wrong(n, reference.width(formula), sum(table))
                wrong = len(turns.wrong_inputs(table))
                self.assertLessEqual(least, min(wrong, 2 ** n - wrong))

    def test_edges(self):
        self.assertEqual([turns.wrong_inputs((0,)), turns.wrong_inputs((1,)), turns.border_number((1,))], [(), ((),), 0])
        odd = reference.table_by(10, reference.sum_of)
        self.assertEqual([turns.wrong_inputs(odd), turns.border_number(odd), turns.border_number((0,) * 1024)],
                         [(), 0, 5120])

    def test_arguments(self):
        self.checks(turns.least_wrong, support.number(3, 1, 10), support.number(2, 0, 3), support.number(4, 0, 8))
        self.checks(turns.least_wrong, support.number(10, 1, 10), support.number(10, 0, 10), support.number(0, 0, 1024))
        self.checks(turns.least_wrong, support.number(1, 1, 10), support.number(0, 0, 1), support.number(2, 0, 2))


class TestUnder(support.Case):
    """[17.5]"""

    def test_turns_under(self):
        for n, table in some_tables():
            for free in range(n + 1):
                every = [reference.table_under(table, r) for r in reference.with_free(n, free)]
                wanted = sum(len(reference.turns(under)) for under in every)
                self.assertEqual(turns.turns_under(table, free), wanted)
        odd = reference.table_by(10, reference.sum_of)
        self.assertEqual([turns.turns_under(odd, free) for free in (0, 1, 10)], [0, 10240, 10240])

    def test_arguments(self):
        self.checks(turns.turns_under, support.table(BOTH), support.number(1, 0, 2))
        self.checks(turns.turns_under, support.table((1,)), support.number(0, 0, 0))


class TestWidths(support.Case):
    """[17.6]"""

    def test_width_answers(self):
        self.assertEqual(turns.MOST_VALUES, 64)
        for n, table in some_tables(3):
            for width in (*range(n + 2), 10):
                rows = reference.inputs(n)
                without = [
                    ("input", row) for row in rows
                    if reference.value(table, row) == 1 and reference.certificate_size(table, row) > width
                ]
                others = [("input", row) for row in rows if ("input", row) not in without]
                judge = (turns.is_width_answer, (table, width))
                word, formula = turns.width_answer(table, width)
                if without:
                    self.assertIn((word, formula), without)
                    self.takes_just(*judge, without, others + [("formula", ()), ("formula", ((),))])
                    continue
                self.assertEqual(word, "formula")
                self.assertLessEqual(reference.width(formula), width)
                self.assertTrue(terms.is_formula(n, formula))
                self.assertEqual(reference.formula_table(n, formula), table)
                others += [("terms", formula), ("formula", formula, ()), formula]
                self.takes_just(*judge, [(word, formula)], others)

    def test_any_right_formula(self):
        for n in (0, 1, 2):
            every = [some for many in range(3) for some in itertools.product(reference.terms(n), repeat=many)]
            for table in reference.tables(n):
                for width in range(n + 2):
                    for formula in every:
                        wanted = reference.width(formula) <= width and reference.formula_table(n, formula) == table
                        self.assertIs(turns.is_width_answer(table, width, ("formula", formula)), wanted)

    def test_how_long(self):
        """A formula has at most 64 terms."""
        for many, wanted in ((64, True), (65, False)):
            value = ("formula", (((0, 1),),) * many)
            self.assertIs(turns.is_width_answer((0, 1, 0, 1), 1, value), wanted)

    def test_six_letters(self):
        odd = reference.table_by(6, reference.sum_of)
        self.assertEqual(turns.width_answer(odd, 5)[0], "input")
        self.assertEqual(len(turns.width_answer(odd, 6)[1]), 32)
        for table in (odd, random_table(6), (1,) * 64, (0,) * 64, (1,) * 63 + (0,)):
            for width in range(11):
                answer = turns.width_answer(table, width)
                self.assertIs(turns.is_width_answer(table, width, answer), True)
        self.assertEqual([turns.width_answer((1,) * 64, 0), turns.width_answer((0,) * 64, 0)],
                         [("formula", ((),)), ("formula", ())])

    def test_arguments(self):
        for table, width in ((ODD, 1), (ODD, 2), ((1,), 0), (BOTH, 10)):
            arguments = (support.table(table), support.number(width, 0, 10))
            self.checks(turns.width_answer, *arguments)
            self.judges(turns.is_width_answer, *arguments)

    def test_limit(self):
        judge = lambda table, width: turns.is_width_answer(table, width, None)
        for function in (turns.width_answer, judge):
            for n in range(11):
                if n <= 6:
                    function((0,) * 2 ** n, 3)
                else:
                    self.refuses(errors.TooMany, 64, function, (0,) * 2 ** n, 3)
                    self.refuses(errors.InvalidNumber, 11, function, (0,) * 2 ** n, 11)
                    self.refuses(errors.InvalidTable, None, function, (0,) * 2 ** n + (0,), 11)


class TestNotTrue(support.Case):
    """[17.7]"""

    def test_equal_counts(self):
        one, other = (0, 0, 0, 1), (0, 1, 1, 1)
        self.assertEqual(turns.turn_counts(one), turns.turn_counts(other))
        self.assertNotIn(other, (one, tuple(1 - bit for bit in one)))

    def test_no_wrong_inputs(self):
        self.assertEqual(turns.wrong_inputs(ODD), ())
        self.assertGreater(turns.turn_number(ODD), turns.turn_number(BOTH))

    def test_width_without_turns(self):
        """All inputs of a formula of width 1 without a turn."""
        formula = (((0, 1),), ((0, 0),))
        table = reference.formula_table(1, formula)
        self.assertEqual(reference.width(formula), 1)
        self.assertEqual([turns.turns_at(table, row) for row in reference.inputs(1)], [(), ()])
        self.assertEqual(turns.width_answer(table, 0), ("formula", ((),)))


if __name__ == "__main__":
    unittest.main()
