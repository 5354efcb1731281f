import itertools
import math
import random
import unittest

import reference
import support
from deepcodes import errors
from deepcodes.canon import canonical
from deepcodes.several import several

CHANCE = random.Random(1010)
DEEP = (((0, 1), (1, 1)), ((1, 1), (2, 1), (3, 1)), ((1, 0), (4, 1), (5, 1)))
FREE, SHUT = (2,) * 6, (0, 2, 2, 2, 2, 2)
BOTH = (DEEP, (((0, 1),), ((2, 1), (5, 0))))
PAIR = (((0, 1), (1, 0)), ((1, 1),), ((0, 1), (1, 0), (2, 1)))
TWO = (PAIR, (((0, 0), (2, 1)), ((1, 1), (2, 0))))
CODE = several.common_code((2, 2, 2), TWO, 1, 3)
COMMON = (support.any_restriction((2, 0, 2)), support.several(3, TWO), support.number(1, 1, 10))


def random_several(n, many=None):
    return tuple(reference.random_formula(CHANCE, n) for _ in range(many or CHANCE.randint(1, 3)))


def cases(most=4, many=14):
    """Letters, formulas, and some restrictions of each number of free letters."""
    for n in range(most + 1):
        for formulas in [((),), (((),), ())] + [random_several(n) for _ in range(many)]:
            every = reference.restrictions(n)
            yield n, formulas, CHANCE.sample(every, min(len(every), 8)) + [(2,) * n]


def code_argument(formulas, good):
    first, turns = good
    wrong = support.NO_TUPLES + list(support.disguised(good)) + [
        (), (first,), (*good, ()), list(good), (None, turns), (first, None), (first[1:], turns), ((*first, 2), turns),
        ((3, *first[1:]), turns), (first, list(turns)), (turns, first),
    ]
    some = (0, ((0, 0, 1, 0),))
    for turn in (
        None, 0, (), (0,), (0, ()), (0, None), [0, ((0, 0, 1, 0),)], (0, [(0, 0, 1, 0)]), (0, ((0, 0, 0, 0),)),
        (-1, some[1]),
        (len(formulas), some[1]), (None, some[1]), (True, some[1]), (10 ** 10, some[1]), (0, some[1], ()),
        ((), some[1]),
        (0, (0, 0, 1, 0)), (0, ((0, 0, 1),)), (0, ((0, 0, 1, 0, 0),)), (0, ((10, 0, 1, 0),)), (0, ((-1, 0, 1, 0),)),
        (0, ((True, 0, 1, 0),)), (0, ((0, 2, 1, 0),)), (0, ((0, 0, 2, 0),)), (0, ((0, 0, 1, 2),)),
        (0, ((0, 0, 1, None),)),
        (0, ((0, False, 1, 0),)), (0, ((0, 0, True, 0),)), (0, ((0, 0, 1, True),)), (0, ([0, 0, 1, 0],)), (0, (None,)),
        (0, ((10 ** 10, 0, 1, 0),)), (0, ((0, 0, 1, 0),) * 11), (0, ((0, 0, 1, 0), (0, 0, 0, 0))),
    ):
        wrong += [(first, (turn,)), (first, (some, turn)), (first, (turn, some))]
    wrong += [(first, (some,) * 11), (first, ((0, some[1] * 6), (0, some[1] * 5)))]
    return support.Argument(good, errors.InvalidCode, wrong)


class TestTurns(support.Case):
    """[10.1]"""

    def test_turns(self):
        for n, formulas, restrictions in cases():
            for restriction, t in itertools.product(restrictions, (*range(1, n + 2), 10)):
                found = several.turn_of(restriction, formulas, t)
                self.assertEqual(found, reference.turn(restriction, formulas, t))
                deep = [canonical.canonical_depth(restriction, formula) >= t for formula in formulas]
                self.assertEqual(found is None, not any(deep))
                if found:
                    index, row = found
                    self.assertEqual(index, deep.index(True))
                    self.assertGreaterEqual(len(row), t)
                    self.assertIs(canonical.is_beginning(restriction, formulas[index], row), True)
                    _, last = canonical.pieces(restriction, formulas[index], row)[-1]
                    self.assertLess(len(row) - len(last), t)

    def test_whole_pieces(self):
        for t in (1, 2, 3):
            self.assertEqual(several.turn_of(SHUT, BOTH, t), (0, ((1, 0), (2, 0), (3, 0))))
        for t in (4, 5):
            self.assertEqual(several.turn_of(SHUT, BOTH, t), (0, ((1, 0), (2, 0), (3, 0), (4, 0), (5, 0))))
        self.assertEqual(several.turn_of((2, 2), ((((0, 1), (1, 1)),),), 1), (0, ((0, 0), (1, 0))))
        # The way over the answer 0 has no two literals, so another one comes first.
        self.assertEqual(several.turn_of((2, 2), ((((0, 0),), ((0, 1), (1, 1))),), 2), (0, ((0, 1), (1, 0))))

    def test_arguments(self):
        self.checks(several.turn_of, *COMMON)
        self.checks(several.turn_of, support.any_restriction(()), support.several(0, ((), ((),))),
            support.number(10, 1, 10))
        eight = support.several(3, TWO * 4)
        self.checks(several.turn_of, support.any_restriction((2, 2, 2)), eight, support.number(2, 1, 10))
        self.assertEqual(several.MOST_FORMULAS, 8)


class TestTrees(support.Case):
    """[10.2]"""

    def test_trees(self):
        for n, formulas, restrictions in cases():
            for restriction, t in itertools.product(restrictions, (*range(1, n + 2), 10)):
                tree = reference.common_tree(restriction, formulas, t)
                self.assertEqual(several.common_tree(restriction, formulas, t), tree)
                self.assertEqual(several.common_depth(restriction, formulas, t), reference.common_depth(tree))
                self.assertIs(several.is_common_tree(restriction, formulas, t, tree), True)
                for way in reference.common_ways(tree):
                    here = reference.told(restriction, way)
                    self.assertIsNone(several.turn_of(here, formulas, t))

    def test_any_common_tree(self):
        for n, formulas, restrictions in cases(3, 8):
            trees = self.trees(list(range(n)), 2)
            for restriction, t in itertools.product(restrictions[-3:], (1, 2)):
                free = reference.free(restriction)
                for tree in trees:
                    ways = reference.common_ways(tree)
                    wanted = all(letter in free for way in ways for letter, _ in way) and not any(
                        reference.turn(reference.told(restriction, way), formulas, t) for way in ways
                    )
                    self.assertIs(several.is_common_tree(restriction, formulas, t, tree), wanted)

    def trees(self, letters, most):
        found = [()]
        if most:
            for letter in letters:
                sides = self.trees([other for other in letters if other != letter], most - 1)
                found += [(letter, low, high) for low in sides for high in sides]
        return found if len(found) < 60 else [()] + CHANCE.sample(found, 59)

    def test_deeper_trees_can_be_needed_where_none_was(self):
        """A tree that asks more is none if a formula is deep at its ends."""
        tree = (0, (), ())
        self.assertEqual(several.common_tree(FREE, (DEEP,), 5), ())
        self.takes_just(several.is_common_tree, (FREE, (DEEP,), 5), [(), (1, (), ())], [tree, 0, None])

    def test_wrong_values(self):
        formulas = ((((0, 1), (1, 1)),), (((2, 0),),))
        right = [
            several.common_tree((2, 2, 2), formulas, 1), (2, (0, (), (1, (), ())), (1, (0, (), ()), (0, (), ()))),
            (1, (2, (), ()), (0, (2, (), ()), (2, (), ()))),
        ]
        wrong = [(), 0, None, (0, (), ()), (2, 0, 0), (2, (0, 0, 0), (0, (), ())),
            (2, (0, (), (1, (), ())), (1, (), ()))]
        wrong += [(2, (0, (), (0, (), ())), (1, (0, (), ()), (0, (), ()))), (2, (2, (), ()), ()), (3, (), ()),
            (-1, (), ())]
        wrong += [(0, (1, (2, (), ()), (2, (), ())), (1, (2, (), ()), (2, (), ())), ())]
        self.takes_just(several.is_common_tree, ((2, 2, 2), formulas, 1), right, wrong)
        self.takes_just(several.is_common_tree, ((0, 2, 2), formulas, 1), [(2, (), ())], right + [(), (0, (), ())])

    def test_more_than_asked(self):
        whole = (1, (2, (), ()), (2, (), ()))
        self.takes_just(several.is_common_tree, ((2, 2, 2), ((),), 1), [(), whole, (0, whole, whole)], [(0, 0, 0)])

    def test_ten_letters(self):
        formulas = tuple(tuple(reference.random_term(CHANCE, 10, 3) for _ in range(64)) for _ in range(8))
        for t in (1, 4, 10):
            tree = several.common_tree((2,) * 10, formulas, t)
            self.assertIs(several.is_common_tree((2,) * 10, formulas, t, tree), True)
            self.assertEqual(several.common_depth((2,) * 10, formulas, t), reference.common_depth(tree))

    def test_arguments(self):
        for function in (several.common_tree, several.common_depth):
            self.checks(function, *COMMON)
        self.judges(several.is_common_tree, *COMMON)
        self.judges(several.is_common_tree, support.any_restriction(()), support.several(0, (((),),)),
                    support.number(1, 1, 10))


class TestCodes(support.Case):
    """[10.3], [10.4]"""

    def test_codes(self):
        for n, formulas, restrictions in cases():
            for restriction, t in itertools.product(restrictions, (1, 2, 3, 10)):
                depth = several.common_depth(restriction, formulas, t)
                for s in (*range(n + 2), 10):
                    code = reference.common_code(restriction, formulas, t, s)
                    self.assertEqual(several.common_code(restriction, formulas, t, s), code)
                    self.assertEqual(code is None, depth < s)
                    wanted = ("code", code) if depth >= s else ("tree", several.common_tree(restriction, formulas, t))
                    self.assertEqual(several.common_answer(restriction, formulas, t, s), wanted)
                    if code is not None:
                        self.assertEqual(several.common_back(n, formulas, code), restriction)
                        self.assertIs(several.is_common_code(n, formulas, t, s, code), True)

    def test_without_letters_of_it(self):
        for formulas in (((),), (((),),), ((), ((),))):
            for restriction in ((), (2, 0)):
                self.assertEqual(several.common_code(restriction, formulas, 1, 0), (restriction, ()))
                self.assertIsNone(several.common_code(restriction, formulas, 1, 1))

    def test_unlike_codes(self):
        for n in range(4):
            for formulas in [random_several(n) for _ in range(10)]:
                for t, s in itertools.product((1, 2), range(n + 1)):
                    found = [several.common_code(r, formulas, t, s) for r in reference.restrictions(n)]
                    found = [code for code in found if code is not None]
                    self.assertEqual(len(set(found)), len(found))

    def test_just_the_common_codes(self):
        for n in range(3):
            for formulas in [((),), (((),), ())] + [random_several(n) for _ in range(10)]:
                for t in (1, 2):
                    right = {}
                    for s in range(3):
                        codes = [several.common_code(r, formulas, t, s) for r in reference.restrictions(n)]
                        right[s] = {code for code in codes if code is not None}
                    for code in self.pairs(n, len(formulas)):
                        back = reference.common_back(formulas, code)
                        self.assertEqual(several.common_back(n, formulas, code), back)
                        for s in range(3):
                            wanted = code in right[s]
                            self.assertIs(several.is_common_code(n, formulas, t, s, code), wanted,
                                (formulas, t, s, code))

    def pairs(self, n, many):
        marks = list(itertools.product((0, 1), (0, 1), (0, 1), (0, 1)))
        turns = [(index, (mark,)) for index in range(many) for mark in marks if mark[2]]
        more = [(index, two) for index in range(many) for two in itertools.product(marks, repeat=2) if two[1][2]]
        rows = [()] + [(turn,) for turn in turns] + CHANCE.sample(more and [(turn,) for turn in more], 60)
        rows += CHANCE.sample(list(itertools.product(turns, repeat=2)), 60)
        return [(restriction, row) for restriction in reference.restrictions(n) for row in rows]

    def test_mixed_codes(self):
        """Codes with parts of others mostly lead nowhere, or are no codes."""
        for formulas in [TWO] + [random_several(4, 2) for _ in range(12)]:
            n = 3 if formulas == TWO else 4
            calls = itertools.product(reference.restrictions(n), [formulas], (1, 2), (2, 3))
            codes = [several.common_code(*call) for call in calls]
            codes = sorted({code for code in codes if code is not None})
            for _ in range(150 if codes else 0):
                first, turns = CHANCE.choice(codes)
                other, more = CHANCE.choice(codes)
                code = (CHANCE.choice((first, other)), CHANCE.choice((turns, turns[:1] + more, more[1:] + turns, more)))
                if sum(len(marks) for _, marks in code[1]) <= 10:
                    back = reference.common_back(formulas, code)
                    self.assertEqual(several.common_back(n, formulas, code), back)
                    for t, s in itertools.product((1, 2), (2, 3)):
                        wanted = back is not None and reference.common_code(back, formulas, t, s) == code
                        self.assertIs(several.is_common_code(n, formulas, t, s, code), wanted)

    def test_none(self):
        mark = (0, 0, 1, 0)
        for code in (
            ((2, 0, 0), ((0, (mark,)),)), ((1, 0, 0), ((0, ((5, 0, 1, 0),)),)),
            ((1, 0, 0), ((0, (mark,)), (0, (mark,)))),
            ((0, 0, 1), ((0, (mark,)),)), ((1, 0, 0), ((0, ((0, 0, 0, 0), (0, 0, 1, 0))),)),
        ):
            self.assertIsNone(several.common_back(3, TWO, code))
            self.assertIs(several.is_common_code(3, TWO, 1, 1, code), False)

    def test_found_in_an_elder_turn(self):
        """The letter comes twice, once in each turn; it is told when it comes again."""
        formulas = ((((0, 1),), ((0, 0),)),)
        code = ((1,), ((0, ((0, 0, 1, 0),)), (0, ((0, 0, 1, 0),))))
        self.assertIsNone(reference.common_back(formulas, code))
        self.assertIsNone(several.common_back(1, formulas, code))

    def test_disguised(self):
        for s in (0, 1, 2, 3):
            code = several.common_code((2, 2, 2), TWO, 1, s)
            self.takes_just(several.is_common_code, (3, TWO, 1, s), [code], code_argument(TWO, CODE).wrong)

    def test_ten_letters(self):
        for many, size in ((8, 3), (3, 5), (1, 9)):
            formulas = tuple(tuple(reference.random_term(CHANCE, 10, size) for _ in range(64)) for _ in range(many))
            for t, s in itertools.product((1, 3, 10), (0, 4, 10)):
                code = several.common_code((2,) * 10, formulas, t, s)
                if code is not None:
                    self.assertEqual(several.common_back(10, formulas, code), (2,) * 10)
                    self.assertIs(several.is_common_code(10, formulas, t, s, code), True)

    def test_arguments(self):
        s = support.number(2, 0, 10)
        for function in (several.common_code, several.common_answer):
            self.checks(function, *COMMON, s)
        several_argument = support.several(3, TWO)
        self.checks(several.common_back, support.letters(3), several_argument, code_argument(TWO, CODE))
        longest = ((0,), ((0, ((9, 0, 1, 0),) * 9), (0, ((9, 0, 1, 0),))))
        self.checks(several.common_back, support.letters(1), support.several(1, (((),),)), code_argument([()], longest))
        self.judges(several.is_common_code, support.letters(3), several_argument, support.number(2, 1, 10), s)
        self.judges(several.is_common_code, support.letters(1), support.several(1, ((), ())), support.number(1, 1, 10),
                    support.number(0, 0, 10))


class TestHowMany(support.Case):
    """[10.5]"""

    def test_bad_ones(self):
        for n in range(4):
            for formulas in [((),), (((),), ())] + [random_several(n) for _ in range(10)]:
                for t, free, s in itertools.product((1, 2, 3), range(n + 1), (*range(n + 2), 10)):
                    depths = [several.common_depth(r, formulas, t) for r in reference.with_free(n, free)]
                    bad = several.common_bad(n, formulas, free, t, s)
                    self.assertEqual(bad, len([depth for depth in depths if depth >= s]))
                    bound = several.common_bound(n, formulas, free, t, s)
                    width = max(reference.width(formula) for formula in formulas)
                    behind = math.comb(n, free - s) * 2 ** (n - free + s) if s <= free else 0
                    self.assertEqual(bound, behind * (8 * width) ** s * len(formulas) ** math.ceil(s / t))
                    self.assertLessEqual(bad, bound)

    def test_greatest_bound(self):
        formulas = (((),),) * 7 + ((tuple((letter, 0) for letter in range(10)),),)
        self.assertEqual(several.common_bound(10, formulas, 10, 1, 10), 1024 * 80 ** 10 * 8 ** 10)
        self.assertEqual(several.common_bound(10, formulas, 10, 3, 10), 1024 * 80 ** 10 * 8 ** 4)
        self.assertEqual(several.common_bound(10, formulas, 10, 10, 10), 1024 * 80 ** 10 * 8)
        self.assertEqual(several.common_bound(10, formulas, 9, 10, 10), 0)

    def test_arguments(self):
        arguments = (support.letters(3), support.several(3, TWO), support.number(2, 0, 3), support.number(1, 1, 10))
        for function in (several.common_bad, several.common_bound):
            self.checks(function, *arguments, support.number(1, 0, 10))
            self.checks(function, support.letters(0), support.several(0, (((),),)), support.number(0, 0, 0),
                        support.number(10, 1, 10), support.number(0, 0, 10))

    def test_work_limit(self):
        """All terms count."""
        many = tuple(reference.random_term(CHANCE, 10, 3) for _ in range(64))
        for formulas, free in (
            ((many[:1],) * 4, 3), ((many[:2], many[:2]), 3), ((many[:31], many[:32]), 7), ((many,), 0),
            ((many[:62], ((),)), 7),
        ):
            self.refuses(errors.TooMany, 60000, several.common_bad, 10, formulas, free, 2, 2)
            self.refuses(errors.InvalidNumber, 11, several.common_bad, 10, formulas, free, 2, 11)
            several.common_bound(10, formulas, free, 2, 2)
        for formulas, free in ((((),) * 8, 3), ((many[:1], many[:2]), 3), ((many[:31], (), many[:31]), 7)):
            several.common_bad(10, formulas, free, 2, 2)


class TestNotTrue(support.Case):
    """[10.6]"""

    def test_one_formula(self):
        tree = several.common_tree((2, 2), ((((0, 1),), ((1, 1),)),), 1)
        self.assertEqual(tree, (0, (1, (), ()), ()))
        # A whole turn row is asked, also at the answers at which the canonical tree ends.
        self.assertEqual(several.common_tree((2, 2), ((((0, 1),), ((1, 1),)),), 2), (0, (1, (), ()), (1, (), ())))
        self.assertEqual(canonical.canonical_tree((2, 2), (((0, 1),), ((1, 1),))), (0, (1, 0, 1), 1))


if __name__ == "__main__":
    unittest.main()
