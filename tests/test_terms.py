import itertools
import random
import unittest

import reference
import support
from deepcodes import errors
from deepcodes.letters import rows, terms

CHANCE = random.Random(22)
F = (((0, 1), (1, 1)), ((1, 0), (2, 1)))


def formulas(n):
    return reference.some_formulas(n, 25, 2)


class TestForms(support.Case):
    """[0.9]"""

    def test_terms(self):
        for n in range(4):
            self.takes_just(terms.is_term, (n,), reference.terms(n), support.term(n, ()).wrong)
        self.takes_just(terms.is_term, (3,), [((0, 0), (2, 1))], [((2, 1), (0, 0)), ((2, 1), (1, 0)), ((0, 0), (3, 1))])

    def test_formulas(self):
        every = [(), ((),), ((), ()), F, F + F, (((2, 1),), ((0, 0),)), ((),) * 64]
        self.takes_just(terms.is_formula, (3,), every, support.formula(3, ()).wrong)
        self.takes_just(terms.is_formula, (0,), [(), ((),), ((),) * 64], [((),) * 65, (((0, 1),),)])
        self.assertIs(terms.is_formula(2, F), False)

    def test_width(self):
        for n in range(4):
            for formula in formulas(n):
                self.assertEqual(terms.width_of(n, formula), reference.width(formula))
        self.assertEqual(terms.width_of(10, (tuple((v, 0) for v in range(10)), ((0, 1),))), 10)

    def test_arguments(self):
        self.judges(terms.is_term, support.letters(3))
        self.judges(terms.is_formula, support.letters(3))
        self.checks(terms.width_of, support.letters(3), support.formula(3, F))
        self.checks(terms.width_of, support.letters(0), support.formula(0, ((),)))


class TestReadings(support.Case):
    """[2.1]"""

    def test_values(self):
        for n in range(4):
            for formula in formulas(n):
                for row in reference.inputs(n):
                    value = terms.formula_value(n, formula, row)
                    self.assertEqual(value, reference.formula_value(formula, row))
                    other = terms.coformula_value(n, formula, row)
                    self.assertEqual(other, reference.coformula_value(formula, row))
                    self.assertEqual((type(value), type(other)), (int, int))

    def test_tables(self):
        for n in range(6):
            for formula in formulas(n):
                self.assertEqual(terms.formula_table(n, formula), reference.formula_table(n, formula))
                wanted = reference.table_by(n, lambda row: reference.coformula_value(formula, row))
                self.assertEqual(terms.coformula_table(n, formula), wanted)
                self.assertEqual(wanted, rows.dual_of(terms.formula_table(n, formula)))

    def test_turned(self):
        for n in range(4):
            for formula in formulas(n):
                turned = terms.turned(n, formula)
                self.assertEqual(turned, tuple(tuple((v, 1 - b) for v, b in term) for term in formula))
                self.assertEqual(terms.coformula_table(n, turned), rows.not_of(terms.formula_table(n, formula)))

    def test_edges(self):
        self.assertEqual([terms.formula_table(0, ()), terms.formula_table(0, ((),))], [(0,), (1,)])
        self.assertEqual([terms.coformula_table(0, ()), terms.coformula_table(0, ((),))], [(1,), (0,)])
        self.assertEqual([terms.formula_table(2, ()), terms.formula_table(2, ((),))], [(0,) * 4, (1,) * 4])
        many = tuple(reference.random_term(CHANCE, 10, 4) for _ in range(64))
        self.assertEqual(terms.formula_table(10, many), reference.formula_table(10, many))
        self.assertEqual(terms.coformula_table(10, many), rows.dual_of(terms.formula_table(10, many)))

    def test_arguments(self):
        for function in (terms.formula_value, terms.coformula_value):
            self.checks(function, support.letters(3), support.formula(3, F), support.row((1, 0, 1)))
        for function in (terms.formula_table, terms.coformula_table, terms.turned):
            self.checks(function, support.letters(3), support.formula(3, F))


class TestLefts(support.Case):
    """[2.2]"""

    def test_lefts(self):
        for n in range(4):
            for formula in formulas(n):
                for restriction in reference.restrictions(n):
                    lefts = terms.lefts(restriction, formula)
                    open_terms = [(i, t) for i, t in enumerate(formula) if not reference.is_false(restriction, t)]
                    wanted = [(index, reference.left(restriction, term)) for index, term in open_terms]
                    self.assertEqual(lefts, tuple(left for _, left in wanted))
                    self.assertEqual(terms.first_left(restriction, formula), wanted[0] if wanted else None)
                    self.assertTrue(terms.is_formula(n, lefts))
                    for row in reference.fitting(restriction):
                        self.assertEqual(terms.formula_value(n, lefts, row), reference.formula_value(formula, row))

    def test_left_of(self):
        for n in range(4):
            for term in reference.terms(n):
                for restriction in reference.restrictions(n):
                    wanted = None
                    if not reference.is_false(restriction, term):
                        wanted = reference.left(restriction, term)
                    self.assertEqual(terms.left_of(restriction, term), wanted)

    def test_arguments(self):
        self.checks(terms.left_of, support.any_restriction((2, 0, 2)), support.term(3, F[0]))
        self.checks(terms.left_of, support.any_restriction(()), support.term(0, ()))
        for function in (terms.lefts, terms.first_left):
            self.checks(function, support.any_restriction((2, 0, 2)), support.formula(3, F))
            self.checks(function, support.any_restriction(()), support.formula(0, ((),)))


class TestWithin(support.Case):
    """[2.3]"""

    def test_within(self):
        for n in range(4):
            every = reference.inputs(n)
            for term, other in itertools.product(reference.terms(n), repeat=2):
                kept = [row for row in every if reference.keeps(row, term)]
                shown = [("input", row) for row in kept if not reference.keeps(row, other)]
                self.assertEqual(not shown, set(other) <= set(term))
                right = shown or [("within",)]
                wrong = [value for value in [("within",)] + [("input", row) for row in every] if value not in right]
                self.takes_just(terms.is_within_answer, (n, term, other), right, wrong)
                self.assertIn(terms.within_answer(n, term, other), right)

    def test_arguments(self):
        self.checks(terms.within_answer, support.letters(3), support.term(3, F[0]), support.term(3, F[1]))
        self.judges(terms.is_within_answer, support.letters(3), support.term(3, F[0]), support.term(3, F[1]))


class TestPrime(support.Case):
    """[2.4], [2.6]"""

    def test_prime(self):
        for n in range(4):
            for table in reference.tables(n)[::1 if n < 3 else 7]:
                yes = {row for row in reference.inputs(n) if reference.value(table, row)}
                primes = []
                for term in reference.terms(n):
                    right = self.right_answers(n, yes, term)
                    self.assertIn(terms.prime_answer(n, table, term), right)
                    every = [("prime",)] + [("input", row) for row in reference.inputs(n)]
                    every += [("letter", letter) for letter in range(n)]
                    wrong = [value for value in every if value not in right]
                    self.takes_just(terms.is_prime_answer, (n, table, term), right, wrong)
                    primes += [term] if right == [("prime",)] else []
                self.assertEqual(terms.prime_terms(n, table), tuple(sorted(primes)))

    @staticmethod
    def right_answers(n, yes, term):
        kept = [row for row in reference.inputs(n) if reference.keeps(row, term)]
        right = [("input", row) for row in kept if row not in yes]
        for literal in term:
            rest = [other for other in term if other != literal]
            if all(row in yes for row in reference.inputs(n) if reference.keeps(row, rest)):
                right.append(("letter", literal[0]))
        return right or [("prime",)]

    def test_terms_lie_within_prime_ones(self):
        for n in range(5):
            for formula in formulas(n):
                primes = terms.prime_terms(n, terms.formula_table(n, formula))
                for term in formula:
                    self.assertTrue(any(set(prime) <= set(term) for prime in primes))

    def test_the_sum(self):
        for n in range(1, 11):
            for table in (rows.sum_table(n), rows.not_of(rows.sum_table(n))):
                primes = terms.prime_terms(n, table)
                self.assertEqual([len(prime) for prime in primes], [n] * 2 ** (n - 1))
        self.assertEqual(terms.prime_terms(0, (0,)), ())
        self.assertEqual(terms.prime_terms(0, (1,)), ((),))
        self.assertEqual(terms.prime_terms(10, (1,) * 1024), ((),))

    def test_wrong_letters(self):
        table = terms.formula_table(3, F)
        values = [("letter", 3), ("letter", -1), ("letter", None), ("letter", (2,)), ("letter",), ("letter", 2, 2)]
        self.takes_just(terms.is_prime_answer, (3, table, ((0, 1), (1, 1), (2, 0))), [("letter", 2)], values)

    def test_arguments(self):
        table = (0, 0, 0, 1, 1, 1, 0, 1)
        self.checks(terms.prime_answer, support.letters(3), support.table_like(table), support.term(3, F[0]))
        self.judges(terms.is_prime_answer, support.letters(3), support.table_like(table), support.term(3, F[0]))
        self.checks(terms.prime_terms, support.letters(3), support.table_like(table))


class TestNeedless(support.Case):
    """[2.5], and formulas that are alike."""

    def test_needless(self):
        for n in range(4):
            for formula in formulas(n):
                for index in range(len(formula)):
                    others = [term for at, term in enumerate(formula) if at != index]
                    every = [("input", row) for row in reference.inputs(n)]
                    right = [
                        value for value in every
                        if reference.keeps(value[1], formula[index]) and not reference.formula_value(others, value[1])
                    ]
                    same = reference.formula_table(n, others) == reference.formula_table(n, formula)
                    self.assertEqual(same, not right)
                    right = right or [("needless",)]
                    wrong = [value for value in [("needless",)] + every if value not in right]
                    self.takes_just(terms.is_needless_answer, (n, formula, index), right, wrong)
                    self.assertIn(terms.needless_answer(n, formula, index), right)

    def test_alike(self):
        for n in range(4):
            for one, other in itertools.product(formulas(n)[:9], repeat=2):
                every = [("input", row) for row in reference.inputs(n)]
                right = [v for v in every if reference.formula_value(one, v[1]) != reference.formula_value(other, v[1])]
                right = right or [("alike",)]
                wrong = [value for value in [("alike",)] + every if value not in right]
                self.takes_just(terms.is_alike_answer, (n, one, other), right, wrong)
                self.assertIn(terms.alike_answer(n, one, other), right)

    def test_arguments(self):
        arguments = (support.letters(3), support.formula(3, F), support.number(1, 0, 1))
        self.checks(terms.needless_answer, *arguments)
        self.judges(terms.is_needless_answer, *arguments)
        self.refuses(errors.InvalidNumber, 0, terms.needless_answer, 3, (), 0)
        self.refuses(errors.InvalidNumber, -1, terms.is_needless_answer, 3, F, -1, None)
        self.checks(terms.alike_answer, support.letters(3), support.formula(3, F), support.formula(3, F[:1]))
        self.judges(terms.is_alike_answer, support.letters(3), support.formula(3, F), support.formula(3, F[:1]))

    def test_what_is_not_true(self):
        """[2.7]"""
        three = (((0, 1), (1, 0)), ((1, 1), (2, 0)), ((0, 0), (2, 1)))
        four = (((0, 1), (2, 0)), ((1, 1), (2, 0)), ((0, 0), (2, 1)), ((1, 0), (2, 1)))
        self.assertEqual(terms.alike_answer(3, three, four), ("alike",))
        for formula in (three, four):
            for index in range(len(formula)):
                self.assertNotEqual(terms.needless_answer(3, formula, index), ("needless",))
        both_ways = (((0, 0), (1, 0)), ((0, 0), (1, 1), (2, 1)), ((0, 1), (2, 1)))
        self.assertNotIn(("needless",), [terms.needless_answer(3, both_ways, index) for index in range(3)])
        self.assertNotEqual(terms.prime_answer(3, terms.formula_table(3, both_ways), both_ways[1]), ("prime",))


if __name__ == "__main__":
    unittest.main()
