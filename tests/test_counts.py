import itertools
import math
import random
import unittest
from fractions import Fraction

import reference
import support
from deepcodes import errors
from deepcodes.canon import canonical, codes, counts
from deepcodes.letters import terms

CHANCE = random.Random(808)
ONE = (((0, 1), (1, 1)), ((1, 0), (2, 1)))
PAIR = (((0, 1), (1, 0)), ((1, 1),), ((0, 1), (1, 0), (2, 1)))
COUNTED = (support.letters(3), support.formula(3, PAIR), support.number(2, 0, 3), support.number(1, 0, 10))


def cases(most=3, many=8):
    for n in range(most + 1):
        for formula in reference.some_formulas(n, many, 21):
            yield n, formula


def rows(width, s):
    """All rows of triples, as [8.1] tells them."""
    found = []
    triples = itertools.product(range(width), (0, 1), (0, 1))
    for row in itertools.product(list(triples), repeat=s):
        pieces = [[]]
        for place, _, end in row:
            pieces[-1].append(place)
            if end:
                pieces.append([])
        if not pieces.pop() and all(piece == sorted(set(piece)) for piece in pieces):
            found.append(row)
    return found


def all_codes(n, formula, s):
    """The pairs of restrictions and of their codes for s, without those that have none."""
    pairs = [(restriction, reference.code_for(restriction, formula, s)) for restriction in reference.restrictions(n)]
    return [(restriction, code) for restriction, code in pairs if code is not None]


def told_number(n, free):
    return math.comb(n, free) * 2 ** (n - free) if 0 <= free <= n else 0


class TestRows(support.Case):
    """[8.1]"""

    def test_numbers(self):
        for width, s in itertools.product(range(4), range(4)):
            found = rows(width, s)
            self.assertEqual(counts.row_number(width, s), len(found))
            self.assertLessEqual(len(found), (4 * width) ** s)
        self.assertEqual([counts.row_number(1, s) for s in range(4)], [1, 2, 4, 8])

    def test_greatest(self):
        for width in range(11):
            self.assertEqual(counts.row_number(width, 0), 1)
            for s in range(1, 11):
                parts = [math.comb(width, j) * 2 ** j * counts.row_number(width, s - j) for j in range(1, s + 1)]
                self.assertEqual(counts.row_number(width, s), sum(parts))
                self.assertLessEqual(counts.row_number(width, s), (4 * width) ** s)

    def test_is_row(self):
        for width, s in itertools.product(range(4), range(3)):
            right = rows(width, s)
            triples = list(itertools.product(range(3), (0, 1), (0, 1)))
            wrong = [row for size in (0, 1, 2, 3) for row in itertools.product(triples[:7], repeat=size)]
            wrong = [row for row in wrong + [((width, 0, 1),) * s] if row not in set(right)]
            self.takes_just(counts.is_row, (width, s), right, wrong)

    def test_wrong_values(self):
        wrong = [((0, 0, 1), [1, 0, 1]), ((0, 0, 1), (1, 0)), ((0, 0, 1), (1, 0, 1, 1)), ((0, 0, 1), (-1, 0, 1))]
        wrong += [((0, 0, 1), (0, 0, 2)), ((0, 0, 1), (0, -1, 1)), ((0, 0, 1), None), ((0, 0, 0), (0, 1, 1))]
        wrong += [((1, 0, 0), (0, 1, 1)), ((0, 0, 0), (1, 0, 0)), ((0, 0, 1), (2, 0, 1)), ((0, 0, 1), (10 ** 20, 0, 1))]
        right = [((0, 0, 0), (1, 0, 1)), ((1, 0, 1), (0, 1, 1)), ((1, 1, 1), (1, 1, 1))]
        self.takes_just(counts.is_row, (2, 2), right, wrong)
        self.takes_just(counts.is_row, (10, 10), [tuple((place, 1, int(place == 9)) for place in range(10))])
        self.takes_just(counts.is_row, (0, 0), [()])

    def test_arguments(self):
        self.checks(counts.row_number, support.number(3, 0, 10), support.number(2, 0, 10))
        self.checks(counts.row_number, support.number(0, 0, 10), support.number(0, 0, 10))
        self.judges(counts.is_row, support.number(3, 0, 10), support.number(2, 0, 10))
        self.judges(counts.is_row, support.number(10, 0, 10), support.number(0, 0, 10))


class TestDeep(support.Case):
    """[8.2], [8.5]"""

    def test_deep(self):
        for n, formula in cases():
            width = reference.width(formula)
            for s in (*range(n + 2), 10):
                found = all_codes(n, formula, s)
                for free in range(n + 1):
                    wanted = tuple(restriction for restriction, _ in found if restriction.count(2) == free)
                    self.assertEqual(counts.deep_restrictions(n, formula, free, s), wanted)
                    self.assertEqual(counts.deep_number(n, formula, free, s), len(wanted))
                    many, row_number, behind, all_of_them = counts.count_paper(n, formula, free, s)
                    self.assertEqual(many, len(wanted))
                    self.assertEqual(row_number, counts.row_number(width, s))
                    self.assertEqual(behind, told_number(n, free - s))
                    self.assertEqual(all_of_them, told_number(n, free))
                    self.assertLessEqual(many, row_number * behind)

    def test_codes_are_rows(self):
        for n, formula in cases():
            for s in range(n + 1):
                for restriction, (first, triples) in all_codes(n, formula, s):
                    self.assertEqual(first.count(2), restriction.count(2) - s)
                    self.assertIs(counts.is_row(reference.width(formula), s, triples), True)

    def test_s_above(self):
        for s in (3, 4, 10):
            self.assertEqual(counts.deep_restrictions(3, PAIR, 2, s), ())
            self.assertEqual(counts.count_paper(3, PAIR, 2, s), (0, counts.row_number(3, s), 0, 6))

    def test_edges(self):
        for formula in ((), ((),)):
            self.assertEqual(counts.deep_restrictions(0, formula, 0, 0), ((),))
            self.assertEqual(counts.count_paper(0, formula, 0, 0), (1, 1, 1, 1))
            self.assertEqual(counts.count_paper(0, formula, 0, 1), (0, 0, 0, 1))
            self.assertEqual(counts.count_paper(3, formula, 2, 1), (0, 0, 12, 6))
            self.assertEqual(counts.deep_number(3, formula, 2, 0), 6)

    def test_good_or_codes(self):
        for n, formula in cases():
            for free, s in itertools.product(range(n + 1), (*range(n + 2), 10)):
                looked_at = reference.with_free(n, free)
                codes_of = [reference.code_for(restriction, formula, s) for restriction in looked_at]
                good = [restriction for restriction, code in zip(looked_at, codes_of) if code is None]
                right = [("good", restriction) for restriction in good]
                wrong = [("good", restriction) for restriction in reference.restrictions(n) if restriction not in good]
                if not good:
                    right = [("codes", tuple(codes_of))]
                    self.assertEqual(len(set(codes_of)), len(codes_of))
                    wrong += [("codes", tuple(codes_of[:-1])), ("codes", tuple(codes_of) * 2)]
                    wrong += [("codes", tuple(codes_of[::-1]))] if len(codes_of) > 1 else []
                    behind = told_number(n, free - s)
                    self.assertGreaterEqual(counts.row_number(reference.width(formula), s) * behind, len(looked_at))
                else:
                    wrong += [("codes", tuple(code for code in codes_of if code is not None)),
                        ("codes", tuple(codes_of))]
                answer = counts.good_or_codes(n, formula, free, s)
                self.assertIn(answer, right)
                if n < 3 or free > 1:
                    self.takes_just(counts.is_good_or_codes, (n, formula, free, s), right, wrong)

    def test_another_code_is_none(self):
        """Only the code of the deep row is the code."""
        along = codes.code_along((2, 2, 2), PAIR, ((0, 1), (1, 1)))
        right = ("codes", (codes.code_of((2, 2, 2), PAIR, 2),))
        self.takes_just(counts.is_good_or_codes, (3, PAIR, 3, 2), [right], [("codes", (along,)), ("codes", ((),))])

    def test_arguments(self):
        for function in (counts.deep_restrictions, counts.deep_number, counts.count_paper, counts.good_or_codes):
            self.checks(function, *COUNTED)
            self.checks(function, support.letters(0), support.formula(0, ((),)), support.number(0, 0, 0),
                        support.number(0, 0, 10))
        self.judges(counts.is_good_or_codes, *COUNTED)
        self.judges(counts.is_good_or_codes, support.letters(1), support.formula(1, (((0, 1),),)),
                    support.number(1, 0, 1), support.number(1, 0, 10))
        self.judges(counts.is_good_or_codes, support.letters(0), support.formula(0, ()), support.number(0, 0, 0),
                    support.number(0, 0, 10))

    def test_work_limit(self):
        many = tuple(reference.random_term(CHANCE, 10, 3) for _ in range(64))
        judge = lambda *arguments: counts.is_good_or_codes(*arguments, None)
        for function in (counts.deep_restrictions, counts.deep_number, counts.count_paper, counts.good_or_codes, judge):
            for formula, free in ((many[:4], 3), (many, 7), (many[:63], 7), (many[:8], 5), (many, 0)):
                self.refuses(errors.TooMany, 60000, function, 10, formula, free, 2)
            # The limit comes behind all other errors.
            self.refuses(errors.InvalidNumber, 11, function, 10, many, 7, 11)
            self.refuses(errors.InvalidNumber, 11, function, 10, many, 11, 11)
            for formula, free in (((), 3), (many[:3], 3), (many[:62], 7), (many, 8)):
                function(10, formula, free, 2)
        self.assertEqual(counts.count_paper(10, (), 3, 0), (15360, 1, 15360, 15360))


class TestFromTheOtherSide(support.Case):
    """[8.3]"""

    def test_rows_at(self):
        for n, formula in cases():
            for s in (*range(n + 2), 10):
                found = all_codes(n, formula, s)
                total = {free: 0 for free in range(n + 1)}
                for restriction in reference.restrictions(n):
                    wanted = tuple(sorted(triples for _, (first, triples) in found if first == restriction))
                    self.assertEqual(counts.rows_at(restriction, formula, s), wanted)
                    if restriction.count(2) + s <= n:
                        total[restriction.count(2) + s] += len(wanted)
                for free in range(n + 1):
                    self.assertEqual(total[free], counts.deep_number(n, formula, free, s))

    def test_by_judging_each_row(self):
        for formula in (ONE, PAIR, PAIR[::-1]):
            for s in (1, 2):
                for restriction in reference.restrictions(3):
                    right = [row for row in rows(3, s) if codes.is_code(3, formula, s, (restriction, row))]
                    self.assertEqual(counts.rows_at(restriction, formula, s), tuple(sorted(right)))

    def test_edges(self):
        self.assertEqual(counts.rows_at((), (), 0), ((),))
        self.assertEqual(counts.rows_at((), ((),), 1), ())
        self.assertEqual(counts.rows_at((2, 2, 2), PAIR, 0), ((),))
        self.assertEqual(counts.rows_at((2, 2, 2), PAIR, 1), ())
        self.assertEqual(counts.rows_at((1, 0, 1), PAIR, 10), ())

    def test_arguments(self):
        arguments = (support.any_restriction((1, 0, 2)), support.formula(3, PAIR), support.number(1, 0, 10))
        self.checks(counts.rows_at, *arguments)
        self.checks(counts.rows_at, support.any_restriction(()), support.formula(0, ()), support.number(0, 0, 10))


class TestShares(support.Case):
    """[8.4]"""

    def test_polynomials(self):
        for n, formula in cases():
            width = reference.width(formula)
            for s in (*range(n + 2), 10):
                numbers = counts.deep_row_numbers(n, formula, s)
                wanted = [counts.deep_number(n, formula, free, s) for free in range(n + 1)]
                self.assertEqual(numbers, tuple(wanted))
                coefficients = counts.share_polynomial(n, formula, s)
                self.assertEqual(len(coefficients), n + 1)
                self.assertTrue(all(type(number) is int for number in coefficients))
                for p in [Fraction(at, 7) for at in range(8)] + [Fraction(-3), Fraction(5, 2)]:
                    share = sum(many * p ** l * ((1 - p) / 2) ** (n - l) for l, many in enumerate(numbers))
                    self.assertEqual(sum(each * p ** at for at, each in enumerate(coefficients)), 2 ** n * share)
                    if 0 <= p < 1:
                        self.assertLessEqual(share, counts.row_number(width, s) * (2 * p / (1 - p)) ** s)

    def test_all_are_deep(self):
        for n in range(6):
            self.assertEqual(counts.share_polynomial(n, (), 0), (2 ** n,) + (0,) * n)
            self.assertEqual(counts.share_polynomial(n, (), 1), (0,) * (n + 1))

    def test_arguments(self):
        for function in (counts.deep_row_numbers, counts.share_polynomial):
            self.checks(function, support.letters(3), support.formula(3, PAIR), support.number(2, 0, 10))
            self.checks(function, support.letters(0), support.formula(0, ((),)), support.number(0, 0, 10))

    def test_work_limit(self):
        many = tuple(reference.random_term(CHANCE, 8, 3) for _ in range(64))
        for function in (counts.deep_row_numbers, counts.share_polynomial):
            for n, most in ((10, 1), (9, 3), (8, 9), (7, 27)):
                formula = tuple(tuple((v % n, b) for v, b in term if v < n) for term in many)
                self.assertEqual(len(function(n, formula[:most], 3)), n + 1)
                self.refuses(errors.TooMany, 60000, function, n, formula[:most + 1], 3)
                self.refuses(errors.InvalidNumber, 11, function, n, formula, 11)
            function(10, (), 3)
            function(6, many[:1] and ((),) * 64, 3)


class TestNotTrue(support.Case):
    """[8.6]"""

    def test_rows_in_no_code(self):
        found = {triples for _, (_, triples) in all_codes(3, PAIR, 2)}
        self.assertLess(len(found), counts.row_number(3, 2))

    def test_lesser_width(self):
        wide = (((0, 1), (1, 1), (2, 1)),)
        narrow = (((0, 1), (1, 1)), ((0, 0), (1, 0)), ((2, 1),))
        self.assertLess(terms.width_of(3, narrow), terms.width_of(3, wide))
        self.assertGreater(counts.deep_number(3, narrow, 2, 2), counts.deep_number(3, wide, 2, 2))

    def test_more_told(self):
        deep = (((0, 1), (1, 1)), ((1, 1), (2, 1), (3, 1)), ((1, 0), (4, 1), (5, 1)))
        free, shut = (2,) * 6, (0, 2, 2, 2, 2, 2)
        self.assertEqual([canonical.canonical_depth(restriction, deep) for restriction in (free, shut)], [4, 5])
        self.assertEqual(counts.deep_restrictions(6, deep, 6, 5), ())
        self.assertIn(shut, counts.deep_restrictions(6, deep, 5, 5))
        self.assertEqual(counts.good_or_codes(6, deep, 6, 5), ("good", free))


if __name__ == "__main__":
    unittest.main()
