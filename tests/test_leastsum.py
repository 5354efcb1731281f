import itertools
import random
import unittest

import reference
import support
from deepcodes import errors
from deepcodes.canon import canonical
from deepcodes.letters import terms
from deepcodes.sums import leastsum

CHANCE = random.Random(1414)
SHORT = (((0, 1),), ((0, 0), (1, 1), (2, 0)))


def odd_rows(n, bit=1):
    return [row for row in reference.inputs(n) if reference.sum_of(row) == bit]


def whole_terms(n, bit=1):
    return [tuple(enumerate(row)) for row in odd_rows(n, bit)]


def near_sums(n):
    """Formulas that tell the sum, or almost so."""
    whole = whole_terms(n)
    for _ in range(12):
        some = list(whole)
        CHANCE.shuffle(some)
        yield tuple(some)
        yield tuple(some + some[:2])
        yield tuple(some[1:])
        yield tuple(some + whole_terms(n, 0)[:1])
        yield tuple(some) + (reference.random_term(CHANCE, n, CHANCE.randint(0, n)),)


def some_formulas(n):
    return reference.some_formulas(n, 25, 61) + list(near_sums(n))


def full_tree(letters, bit=0):
    """A tree that asks all of these letters, in any sequence, and tells their sum."""
    if not letters:
        return bit
    letter = CHANCE.choice(letters)
    rest = [other for other in letters if other != letter]
    return (letter, full_tree(rest, bit), full_tree(rest, 1 - bit))


class TestSums(support.Case):
    """[14.2], [14.4], [14.5]"""

    def test_formulas(self):
        self.assertEqual(leastsum.MOST_TERMS, 64)
        for n in range(8):
            formula, coformula = leastsum.sum_formula(n), leastsum.sum_coformula(n)
            odd = reference.table_by(n, reference.sum_of)
            self.assertEqual(terms.formula_table(n, formula), odd)
            self.assertEqual(terms.coformula_table(n, coformula), odd)
            self.assertEqual(formula, tuple(sorted(whole_terms(n))))
            clauses = [tuple((v, 1 - b) for v, b in term) for term in whole_terms(n, 0)]
            self.assertEqual(coformula, tuple(sorted(clauses)))
            if n:
                self.assertEqual([len(formula), len(coformula)], [2 ** (n - 1)] * 2)
                self.assertEqual(leastsum.sum_answer(n, formula), ("sum", 2 ** (n - 1)))
                self.assertEqual(leastsum.cosum_answer(n, coformula), ("sum", 2 ** (n - 1)))

    def test_no_letters(self):
        self.assertEqual(leastsum.sum_answer(0, ()), ("sum", 0))
        self.assertEqual(leastsum.sum_answer(0, ((),)), ("wrong", ()))
        self.assertEqual(leastsum.cosum_answer(0, ((), ())), ("sum", 1))
        self.assertEqual(leastsum.cosum_answer(0, ()), ("wrong", ()))
        self.assertEqual(leastsum.tree_answer(0, 0), ("sum", 1))
        self.assertEqual(leastsum.tree_answer(0, 1), ("wrong", ()))
        self.assertEqual([leastsum.sum_tree(0), leastsum.sum_tree(1)], [0, (0, 0, 1)])
        self.takes_just(leastsum.is_cosum_answer, (0, ((), ())), [("sum", 1)], [("sum", 2), ("sum", 0), ("wrong", ())])

    def test_trees(self):
        for n in range(11):
            tree = leastsum.sum_tree(n)
            found = reference.ways(tree)
            self.assertEqual(len(found), 2 ** n)
            for literals, end in found:
                self.assertEqual([letter for letter, _ in literals], list(range(n)))
                self.assertEqual(end, sum(bit for _, bit in literals) % 2)
            self.assertEqual(leastsum.tree_answer(n, tree), ("sum", 2 ** n))

    def test_arguments(self):
        for function in (leastsum.sum_formula, leastsum.sum_coformula):
            self.checks(function, support.number(3, 0, 7))
            self.refuses(errors.InvalidNumber, 10, function, 10)
        self.checks(leastsum.sum_tree, support.letters(3))


class TestAnswers(support.Case):
    """[14.1], [14.2], [14.4]"""

    def check(self, answer, judge, n, formula, value):
        wrong = [row for row in reference.inputs(n) if value(formula, row) != reference.sum_of(row)]
        many = len(set(formula))
        others = [("wrong", row) for row in reference.inputs(n) if row not in wrong]
        others += [("sum", number) for number in (many - 1, many + 1, len(formula) + 2)]
        right = [("wrong", row) for row in wrong]
        if wrong:
            others.append(("sum", many))
        else:
            right = [("sum", many)]
            if n:
                self.assertEqual(many, 2 ** (n - 1))
                bit = 1 if value is reference.formula_value else 0
                self.assertEqual(sorted(set(formula)), sorted(
                    tuple((v, b if bit else 1 - b) for v, b in term) for term in whole_terms(n, bit)
                ))
        self.assertIn(answer(n, formula), right)
        self.takes_just(judge, (n, formula), right, others)

    def test_formulas(self):
        for n in range(5):
            for formula in some_formulas(n):
                self.check(leastsum.sum_answer, leastsum.is_sum_answer, n, formula, reference.formula_value)

    def test_coformulas(self):
        for n in range(5):
            for formula in some_formulas(n):
                other = tuple(tuple((v, 1 - b) for v, b in term) for term in formula)
                for some in (formula, other):
                    self.check(leastsum.cosum_answer, leastsum.is_cosum_answer, n, some, reference.coformula_value)
        for n in range(1, 5):
            clauses = [tuple((v, 1 - b) for v, b in term) for term in whole_terms(n, 0)]
            for some in (clauses, clauses[::-1], clauses + clauses[:1], clauses[1:]):
                self.check(leastsum.cosum_answer, leastsum.is_cosum_answer, n, tuple(some), reference.coformula_value)

    def test_a_term_that_lacks_a_letter(self):
        for n in range(1, 5):
            for term in reference.terms(n):
                kept = [row for row in reference.inputs(n) if reference.keeps(row, term)]
                odd = sum(reference.sum_of(row) for row in kept)
                self.assertEqual(len(term) < n, odd * 2 == len(kept))
                if len(term) < n:
                    word, row = leastsum.sum_answer(n, tuple(whole_terms(n)) + (term,))
                    self.assertEqual((word, reference.sum_of(row)), ("wrong", 0))

    def test_ten_letters(self):
        formula = tuple(reference.random_term(CHANCE, 10, 10) for _ in range(64))
        answer = leastsum.sum_answer(10, formula)
        self.assertEqual(answer[0], "wrong")
        self.assertIs(leastsum.is_sum_answer(10, formula, answer), True)

    def test_arguments(self):
        for n, formula in ((3, SHORT), (2, leastsum.sum_formula(2)), (0, ()), (0, ((),))):
            arguments = (support.letters(n), support.formula(n, formula))
            for function in (leastsum.sum_answer, leastsum.cosum_answer, leastsum.wrong_number, leastsum.is_apart):
                self.checks(function, *arguments)
            self.judges(leastsum.is_sum_answer, *arguments)
            self.judges(leastsum.is_cosum_answer, *arguments)


class TestHowMany(support.Case):
    """[14.3]"""

    def test_wrong_number(self):
        for n in range(5):
            for formula in some_formulas(n):
                wrong = [r for r in reference.inputs(n) if reference.formula_value(formula, r) != reference.sum_of(r)]
                self.assertEqual(leastsum.wrong_number(n, formula), len(wrong))
                if n and len(formula) < 2 ** (n - 1):
                    self.assertTrue(wrong)
        self.assertEqual(leastsum.wrong_number(10, ()), 512)

    def test_apart(self):
        found = set()
        for n in range(5):
            for formula in some_formulas(n) + [tuple(whole_terms(n)), tuple(whole_terms(n, 0))]:
                pairs = itertools.combinations(formula, 2)
                unlike = [any((v, 1 - b) in two for v, b in one) for one, two in pairs]
                self.assertIs(leastsum.is_apart(n, formula), all(unlike))
                if all(unlike) and n:
                    odd, even = [len([term for term in formula if term in whole_terms(n, bit)]) for bit in (1, 0)]
                    self.assertEqual(leastsum.wrong_number(n, formula), 2 ** (n - 1) + even - odd)
                    found.add((odd > 0, even > 0))
        self.assertEqual(len(found), 4)

    def test_a_term_twice(self):
        for term in ((), ((0, 1),), ((0, 1), (1, 0))):
            self.assertIs(leastsum.is_apart(2, (term,)), True)
            self.assertIs(leastsum.is_apart(2, (term, term)), False)
        self.assertIs(leastsum.is_apart(0, ()), True)


class TestTrees(support.Case):
    """[14.5]"""

    def test_answers(self):
        for n in range(4):
            letters = list(range(n))
            trees = [0, 1] + [reference.random_tree(CHANCE, letters, 0.2) for _ in range(30)]
            trees += [full_tree(letters, bit) for bit in (0, 0, 1) for _ in range(5)]
            for tree in trees:
                wrong = [row for row in reference.inputs(n) if reference.tree_value(tree, row) != reference.sum_of(row)]
                many = len(reference.ways(tree))
                ways = reference.ways(tree)
                is_sum = all(len(way) == n and end == sum(bit for _, bit in way) % 2 for way, end in ways)
                self.assertEqual(is_sum, not wrong)
                right = [("wrong", row) for row in wrong] or [("sum", 2 ** n)]
                others = [("wrong", row) for row in reference.inputs(n) if row not in wrong]
                others += [("sum", number) for number in (many - 1, many + 1)] + ([("sum", many)] if wrong else [])
                self.assertIn(leastsum.tree_answer(n, tree), right)
                self.takes_just(leastsum.is_tree_answer, (n, tree), right, others)

    def test_arguments(self):
        for n, tree in ((3, (0, (1, 0, 1), (2, 1, 1))), (0, 1), (2, (1, (0, 0, 1), (0, 1, 0)))):
            arguments = (support.letters(n), support.tree(n, tree))
            self.checks(leastsum.tree_answer, *arguments)
            self.judges(leastsum.is_tree_answer, *arguments)


class TestUnder(support.Case):
    """[14.6]"""

    def test_depths(self):
        for n in range(5):
            for _ in range(6):
                formula = list(leastsum.sum_formula(n))
                CHANCE.shuffle(formula)
                for restriction in reference.restrictions(n):
                    lefts = terms.lefts(restriction, tuple(formula))
                    self.assertTrue(all(len(left) == restriction.count(2) for left in lefts))
                    self.assertEqual(canonical.canonical_depth(restriction, tuple(formula)), restriction.count(2))


class TestNotTrue(support.Case):
    """[14.7]"""

    def test_right_at_odd_inputs(self):
        formula = ((),)
        wrong = [row for row in reference.inputs(3) if row not in odd_rows(3)]
        self.takes_just(leastsum.is_sum_answer, (3, formula), [("wrong", row) for row in wrong],
            [("sum", 4), ("sum", 1)])

    def test_apart_and_mostly_right(self):
        formula = leastsum.sum_formula(3)[1:]
        self.assertIs(leastsum.is_apart(3, formula), True)
        self.assertEqual(leastsum.wrong_number(3, formula), 1)

    def test_all_letters_deep(self):
        formula = (((0, 1), (1, 1)),)
        self.assertEqual(canonical.canonical_depth((2, 2), formula), 2)
        self.assertEqual(leastsum.sum_answer(2, formula)[0], "wrong")


if __name__ == "__main__":
    unittest.main()
