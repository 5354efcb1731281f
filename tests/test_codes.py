import itertools
import math
import random
import unittest

import reference
import support
from deepcodes import errors
from deepcodes.canon import canonical, codes
from deepcodes.letters import terms

CHANCE = random.Random(77)
DEEP = (((0, 1), (1, 1)), ((1, 1), (2, 1), (3, 1)), ((1, 0), (4, 1), (5, 1)))
FREE, SHUT = (2,) * 6, (0, 2, 2, 2, 2, 2)
PAIR = (((0, 1), (1, 0)), ((1, 1),), ((0, 1), (1, 0), (2, 1)))
CODE = ((1, 0, 2), ((0, 1, 0), (1, 1, 1)))


def cases(most=3, many=12):
    for n in range(most + 1):
        for formula in reference.some_formulas(n, many, 9):
            for restriction in reference.restrictions(n):
                yield n, formula, restriction


def pairs(n, places, most):
    """All pairs of a restriction and of up to so many triples with these places."""
    triples = list(itertools.product(places, (0, 1), (0, 1)))
    rows = [row for size in range(most + 1) for row in itertools.product(triples, repeat=size)]
    return [(restriction, row) for restriction in reference.restrictions(n) for row in rows]


def code_argument(good):
    wrong = support.NO_TUPLES + list(support.disguised(good)) + [
        (), (good[0],), (*good, ()), list(good), (None, good[1]), (good[0], None), (good[0][1:], good[1]),
        ((*good[0], 2), good[1]), ((3, *good[0][1:]), good[1]), (good[0], list(good[1])), (good[0], ((10, 0, 1),)),
        (good[0], ((-1, 0, 1),)), (good[0], ((0, 2, 1),)), (good[0], ((0, 0, 2),)), (good[0], ((0, 0),)),
        (good[0], ((0, 0, 1, 1),)), (good[0], (None,)), (good[0], ([0, 0, 1],)), (good[0], ((0, 0, True),)),
        (good[0], ((0, False, 1),)), (good[0], ((True, 0, 1),)), (good[0], ((10 ** 10, 0, 1),)),
        (good[0], ((0, 0, 1),) * 11), (good[0], (0, 0, 1)), (good[0], ((None, 0, 1),)), (good[1], good[0]),
    ]
    return support.Argument(good, errors.InvalidCode, wrong)


class TestCodes(support.Case):
    """[0.14], [7.1]"""

    def test_code_of(self):
        for _, formula, restriction in cases():
            for s in (*range(5), 10):
                row = reference.deep_row(restriction, formula, s)
                wanted = None if row is None else reference.code(restriction, formula, row)
                self.assertEqual(codes.code_of(restriction, formula, s), wanted)
                depth = canonical.canonical_depth(restriction, formula)
                self.assertEqual(wanted is None, depth < s)

    def test_code_along(self):
        for _, formula, restriction in cases():
            for literals in reference.beginnings(restriction, formula):
                wanted = reference.code(restriction, formula, literals)
                self.assertEqual(codes.code_along(restriction, formula, literals), wanted)

    def test_no_letters(self):
        for restriction in ((), (2, 0)):
            for formula in ((), ((),)):
                self.assertEqual(codes.code_of(restriction, formula, 0), (restriction, ()))
                self.assertIsNone(codes.code_of(restriction, formula, 1))

    def test_places_in_the_whole_term(self):
        formula = (((0, 1), (1, 0), (2, 1)),)
        self.assertEqual(codes.code_of((1, 2, 2), formula, 2), ((1, 0, 1), ((1, 0, 0), (2, 0, 1))))
        self.assertEqual(codes.code_of((1, 2, 2), formula, 1), ((1, 0, 2), ((1, 0, 1),)))

    def test_arguments(self):
        arguments = (support.any_restriction((2, 0, 2)), support.formula(3, PAIR))
        for function in (codes.code_of, codes.canon_answer):
            self.checks(function, *arguments, support.number(1, 0, 10))
        wrong = support.NO_TUPLES + [((1, 0),), ((0, 2),), ((0, True),), ((False, 1),), ([0, 1],), ((0, 1), (1, 0))]
        literals = support.Argument(((0, 1),), errors.InvalidOperation, wrong + [((0, 1), None), (0, 1), ((0,),)])
        self.checks(codes.code_along, *arguments, literals)


class TestBack(support.Case):
    """[7.2], [7.3]"""

    def test_all_pairs(self):
        for n, places, most in ((0, (0, 1), 2), (1, (0, 1), 2), (2, (0, 1, 2), 2)):
            for formula in reference.some_formulas(n, 12, 10):
                for code in pairs(n, places, most):
                    self.check_back(n, formula, code)

    def test_pairs_of_more_letters(self):
        for formula in reference.some_formulas(3, 15, 11) + [PAIR, PAIR[::-1]]:
            for code in CHANCE.sample(pairs(3, (0, 1, 2), 3), 400):
                self.check_back(3, formula, code)

    def check_back(self, n, formula, code):
        back = reference.led_back(formula, code)
        self.assertEqual(codes.led_back(n, formula, code), back[0] if back else None)
        self.assertEqual(codes.terms_back(n, formula, code), back[1] if back else None)

    def test_one_to_one(self):
        for n in range(4):
            for formula in reference.some_formulas(n, 12, 12):
                found = {}
                for restriction in reference.restrictions(n):
                    for literals in reference.beginnings(restriction, formula):
                        code = codes.code_along(restriction, formula, literals)
                        self.assertEqual(codes.led_back(n, formula, code), restriction)
                        taken = tuple(index for index, _ in canonical.pieces(restriction, formula, literals))
                        self.assertEqual(codes.terms_back(n, formula, code), taken)
                        self.assertNotIn(code, found)
                        found[code] = restriction

    def test_great_ones(self):
        for size in (2, 5, 9):
            formula = tuple(reference.random_term(CHANCE, 10, size) for _ in range(64))
            for s in range(11):
                code = codes.code_of((2,) * 10, formula, s)
                if code is not None:
                    self.assertEqual(codes.led_back(10, formula, code), (2,) * 10)
                    self.assertIs(codes.is_code(10, formula, s, code), True)

    def test_without_triples(self):
        for formula in ((), ((),), PAIR):
            self.assertEqual(codes.led_back(3, formula, ((0, 1, 2), ())), (0, 1, 2))
            self.assertEqual(codes.terms_back(3, formula, ((0, 1, 2), ())), ())

    def test_none(self):
        for code in (
            ((2, 0, 2), ((0, 0, 1),)), ((1, 0, 2), ((2, 0, 1),)), ((1, 0, 2), ((0, 0, 0), (0, 0, 1))),
            ((1, 0, 2), ((0, 0, 1), (0, 0, 1), (0, 0, 1))), ((0, 0, 2), ((0, 0, 1),)),
            ((0, 1, 2), ((0, 1, 0), (9, 0, 1))),
        ):
            self.assertIsNone(codes.led_back(3, PAIR, code))
            self.assertIsNone(codes.terms_back(3, PAIR, code))

    def test_a_piece_may_be_cut(self):
        self.assertEqual(codes.led_back(3, PAIR, ((1, 0, 2), ((0, 0, 0),))), (2, 0, 2))
        self.assertIs(codes.is_along(3, PAIR, ((1, 0, 2), ((0, 0, 0),))), False)
        self.assertIs(codes.is_along(3, PAIR, ((1, 0, 2), ((0, 0, 1),))), True)

    def test_arguments(self):
        arguments = (support.letters(3), support.formula(3, PAIR), code_argument(CODE))
        for function in (codes.led_back, codes.terms_back):
            self.checks(function, *arguments)
            longest = code_argument(((0,), ((9, 0, 1),) * 10))
            self.checks(function, support.letters(1), support.formula(1, ((),)), longest)


class TestJustWhich(support.Case):
    """[7.4]"""

    def along(self, n, formula):
        found = {}
        for restriction in reference.restrictions(n):
            for literals in reference.beginnings(restriction, formula):
                found[reference.code(restriction, formula, literals)] = restriction, literals
        return found

    def check_pairs(self, n, formula, every):
        found = self.along(n, formula)
        deep = {}
        for code, (restriction, literals) in found.items():
            deep[code] = literals == reference.deep_row(restriction, formula, len(literals))
        for code in every:
            self.assertIs(codes.is_along(n, formula, code), code in found, (formula, code))
            for s in {len(code[1]), 0, 1, 2}:
                wanted = deep.get(code, False) and len(code[1]) == s
                self.assertIs(codes.is_code(n, formula, s, code), wanted, (formula, s, code))

    def test_all_pairs(self):
        for n, places, most in ((0, (0, 1), 1), (1, (0, 1), 2), (2, (0, 1), 2)):
            for formula in reference.some_formulas(n, 10, 13):
                self.check_pairs(n, formula, pairs(n, places, most))

    def test_pairs_of_more_letters(self):
        every = pairs(3, (0, 1, 2), 3)
        for formula in reference.some_formulas(3, 10, 14) + [PAIR, PAIR[::-1]]:
            self.check_pairs(3, formula, CHANCE.sample(every, 300) + list(self.along(3, formula)))

    def test_disguised(self):
        for n, formula, restriction in cases(3, 5):
            for literals in reference.beginnings(restriction, formula):
                code = reference.code(restriction, formula, literals)
                self.takes_just(codes.is_along, (n, formula), [code])
                for wrong in support.disguised(code):
                    self.assertIs(codes.is_code(n, formula, len(literals), wrong), False)

    def test_wrong_values(self):
        wrong = code_argument(CODE).wrong
        self.takes_just(codes.is_along, (3, PAIR), [CODE], wrong)
        deep = codes.code_of((2, 2, 2), PAIR, 2)
        self.takes_just(codes.is_code, (3, PAIR, 2), [deep], wrong + [CODE])

    def test_arguments(self):
        arguments = (support.letters(3), support.formula(3, PAIR))
        self.judges(codes.is_along, *arguments)
        self.judges(codes.is_code, *arguments, support.number(1, 0, 10))
        self.judges(codes.is_code, *arguments, support.number(0, 0, 10))
        self.judges(codes.is_along, support.letters(0), support.formula(0, ((),)))


class TestAnswers(support.Case):
    def test_answers(self):
        for n, formula, restriction in cases(2, 8):
            tree = reference.canonical(restriction, formula)
            rows = reference.beginnings(restriction, formula)
            all_codes = {
                reference.code(other, formula, literals)
                for other in reference.restrictions(n) for literals in reference.beginnings(other, formula)
            }
            every = [("code", code) for code in sorted(all_codes)]
            every += [("tree", other) for other in reference.trees(list(range(n)), n)]
            for s in range(n + 2):
                right = [("code", reference.code(restriction, formula, row)) for row in rows if len(row) == s]
                right = right or [("tree", tree)]
                judge = (codes.is_canon_answer, (restriction, formula, s))
                self.takes_just(*judge, right, [value for value in every if value not in right])
                self.assertIn(codes.canon_answer(restriction, formula, s), right)

    def test_arguments(self):
        arguments = (support.any_restriction((2, 0, 2)), support.formula(3, PAIR))
        for s in (0, 1, 2, 10):
            self.judges(codes.is_canon_answer, *arguments, support.number(s, 0, 10))


class TestCounted(support.Case):
    """[0.15], [7.5]"""

    def test_codes_at(self):
        for n in range(4):
            for formula in reference.some_formulas(n, 8, 15):
                width = terms.width_of(n, formula)
                for free in range(n + 1):
                    for s in range(n + 2):
                        found = codes.codes_at(n, formula, free, s)
                        wanted = [r for r in reference.restrictions(n) if len(reference.free(r)) == free]
                        wanted = [r for r in wanted if canonical.canonical_depth(r, formula) >= s]
                        self.assertEqual(list(found), wanted)
                        self.assertEqual(list(found.values()), [codes.code_of(r, formula, s) for r in wanted])
                        self.assertEqual(len(set(found.values())), len(found))
                        if s <= free:
                            all_of_them = math.comb(n, free - s) * 2 ** (n - free + s)
                            self.assertLessEqual(len(found), all_of_them * (4 * width) ** s)
                        else:
                            self.assertEqual(found, {})
                        for first, triples in found.values():
                            self.assertEqual(len(reference.free(first)), free - s)
                            self.assertTrue(all(place < width for place, _, _ in triples))

    def test_work_limit(self):
        three = tuple(reference.random_term(CHANCE, 10, 3) for _ in range(3))
        self.assertEqual(len(codes.codes_at(10, three, 3, 0)), 15360)
        many = tuple(reference.random_term(CHANCE, 10, 3) for _ in range(64))
        for formula, free in ((three + three[:1], 3), (many, 7), (many[:8], 5), (many, 0)):
            self.refuses(errors.TooMany, 60000, codes.codes_at, 10, formula, free, 2)
        self.assertEqual(codes.codes_at(10, (), 3, 1), {})
        self.assertEqual(len(codes.codes_at(10, (), 3, 0)), 15360)
        self.assertTrue(codes.codes_at(10, many[:62], 7, 2))
        self.refuses(errors.TooMany, 60000, codes.codes_at, 10, many[:63], 7, 2)
        self.assertTrue(codes.codes_at(10, many, 8, 2))
        # The limit comes behind all other errors.
        self.refuses(errors.InvalidNumber, 11, codes.codes_at, 10, many, 7, 11)
        self.refuses(errors.InvalidNumber, 11, codes.codes_at, 10, many, 11, 11)

    def test_arguments(self):
        arguments = (support.letters(3), support.formula(3, PAIR), support.number(3, 0, 3), support.number(2, 0, 10))
        self.checks(codes.codes_at, *arguments)
        self.checks(codes.codes_at, support.letters(0), support.formula(0, ((),)), support.number(0, 0, 0),
                    support.number(0, 0, 10))

    def test_what_is_not_true(self):
        """[7.6]"""
        self.assertEqual(codes.led_back(3, PAIR, ((1, 0, 2), ((0, 0, 0),))), (2, 0, 2))
        one, other = (((0, 1),),), (((0, 1), (1, 1)), ((0, 1), (1, 0)))
        self.assertEqual(terms.alike_answer(2, one, other), ("alike",))
        self.assertNotEqual(codes.codes_at(2, one, 2, 2), codes.codes_at(2, other, 2, 2))


if __name__ == "__main__":
    unittest.main()
