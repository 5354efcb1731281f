import itertools
import math
import random
import unittest

import reference
import support
from deepcodes import errors
from deepcodes.letters import rows
from deepcodes.told import restrictions as told

CHANCE = random.Random(33)


class TestNumbers(support.Case):
    """[3.1]"""

    def test_numbers(self):
        for n in range(6):
            for number, restriction in enumerate(reference.restrictions(n)):
                self.assertEqual(told.restriction_at(n, number), restriction)
                self.assertEqual(told.number_of(restriction), number)
        self.assertEqual(told.restriction_at(10, 3 ** 10 - 1), (2,) * 10)
        self.assertEqual(told.number_of((2,) * 10), 3 ** 10 - 1)
        self.assertEqual(told.number_of((0,) * 9 + (1,)), 3 ** 9)
        self.assertEqual(told.number_of(()), 0)

    def test_is_restriction(self):
        wrong = support.restriction((2, 1)).wrong
        self.takes_just(told.is_restriction, (2,), reference.restrictions(2), wrong)
        self.takes_just(told.is_restriction, (0,), [()], [(2,), None, []])
        self.takes_just(told.is_restriction, (10,), [(2,) * 10], [(2,) * 9, (2,) * 11])

    def test_all_with_some_free(self):
        for n in range(7):
            for free in range(n + 1):
                wanted = [r for r in reference.restrictions(n) if len(reference.free(r)) == free]
                self.assertEqual(told.restrictions(n, free), tuple(wanted))
        for n in range(11):
            for free in range(n + 1):
                self.assertEqual(told.how_many(n, free), math.comb(n, free) * 2 ** (n - free))
        self.assertEqual(len(told.restrictions(10, 3)), 15360)

    def test_fitting(self):
        for n in range(6):
            counts = {row: 0 for row in reference.inputs(n)}
            for restriction in reference.restrictions(n):
                fitting = told.fitting(restriction)
                self.assertEqual(fitting, tuple(reference.fitting(restriction)))
                self.assertEqual(told.free_letters(restriction), tuple(reference.free(restriction)))
                self.assertEqual(len(fitting), 2 ** len(told.free_letters(restriction)))
                for row in fitting:
                    counts[row] += 1
            self.assertEqual(set(counts.values()), {2 ** n})
        self.assertEqual(told.fitting((2,) * 10), rows.inputs(10))

    def test_arguments(self):
        self.judges(told.is_restriction, support.letters(3))
        self.checks(told.number_of, support.any_restriction((2, 0, 1)))
        self.checks(told.restriction_at, support.letters(3), support.number(7, 0, 26))
        self.checks(told.restriction_at, support.letters(0), support.number(0, 0, 0))
        self.checks(told.restriction_at, support.letters(10), support.number(59048, 0, 59048))
        for function in (told.restrictions, told.how_many):
            self.checks(function, support.letters(3), support.number(3, 0, 3))
            self.checks(function, support.letters(0), support.number(0, 0, 0))
        for function in (told.free_letters, told.fitting):
            self.checks(function, support.any_restriction((2, 0, 1)))


class TestLiterals(support.Case):
    def test_with_literals(self):
        for restriction in reference.restrictions(3):
            free = reference.free(restriction)
            for size in range(len(free) + 1):
                for letters in itertools.permutations(free, size):
                    for bits in itertools.product((0, 1), repeat=size):
                        literals = tuple(zip(letters, bits))
                        wanted = reference.told(restriction, literals)
                        self.assertEqual(told.with_literals(restriction, literals), wanted)

    def test_arguments(self):
        wrong = support.NO_TUPLES + [
            ((1, 0),), ((1, 1),), ((0, 1), (0, 1)), ((0, 1), (0, 0)), ((0, 1), (2, 0), (0, 1)), ((3, 0),), ((-1, 0),),
            ((0, 2),), ((0,),), ((0, 1, 1),), (0, 1), ([0, 1],), ((0, True),), ((False, 1),), ((None, 1),),
            ((0, None),), ((10 ** 10, 1),), (((), 1),), [(0, 1)],
        ]
        literals = support.Argument(((2, 1), (0, 0)), errors.InvalidOperation, wrong)
        self.checks(told.with_literals, support.any_restriction((2, 0, 2)), literals)
        self.assertEqual(told.with_literals((), ()), ())


class TestBehind(support.Case):
    """[3.2], [3.3]"""

    def test_behind(self):
        for first in reference.restrictions(3):
            free = reference.free(first)
            for second in reference.restrictions(len(free)):
                whole = told.behind(first, second)
                self.assertEqual(whole, reference.told(first, zip(free, second)))
                table = tuple(CHANCE.randrange(2) for _ in range(8))
                under = told.table_under(told.table_under(table, first), second)
                self.assertEqual(under, told.table_under(table, whole))

    def test_table_under(self):
        for n in range(5):
            for _ in range(3):
                table = tuple(CHANCE.randrange(2) for _ in range(2 ** n))
                for restriction in reference.restrictions(n):
                    self.assertEqual(told.table_under(table, restriction), reference.table_under(table, restriction))
        self.assertEqual(told.table_under(rows.sum_table(10), (2,) * 9 + (1,)), rows.not_of(rows.sum_table(9)))

    def test_through(self):
        for n in range(5):
            every = reference.restrictions(n)
            for restriction in every:
                own = len(reference.free(restriction))
                for free in range(own, n + 1):
                    pairs = told.through(restriction, free)
                    firsts = [f for f in every if len(reference.free(f)) == free and self.tells_all(restriction, f)]
                    seconds = [tuple(restriction[v] for v in reference.free(first)) for first in firsts]
                    self.assertEqual(pairs, tuple(zip(firsts, seconds)))
                    self.assertEqual(len(pairs), math.comb(n - own, free - own))
                    for first, second in pairs:
                        self.assertEqual(told.behind(first, second), restriction)

    @staticmethod
    def tells_all(one, other):
        return all(b in (2, a) for a, b in zip(one, other))

    def test_arguments(self):
        self.checks(told.behind, support.any_restriction((2, 0, 2)), support.restriction((2, 1)))
        self.checks(told.behind, support.any_restriction((1, 0)), support.restriction(()))
        self.checks(told.behind, support.any_restriction(()), support.restriction(()))
        self.checks(told.table_under, support.table((0, 1, 1, 0)), support.restriction((2, 1)))
        self.checks(told.table_under, support.table((0,)), support.restriction(()))
        self.checks(told.through, support.any_restriction((2, 0, 1, 2)), support.number(3, 2, 4))
        self.checks(told.through, support.any_restriction(()), support.number(0, 0, 0))


class TestTwo(support.Case):
    """[3.4], [3.5]"""

    def test_order(self):
        for n in range(4):
            for one, other in itertools.product(reference.restrictions(n), repeat=2):
                lacks = [v for v in range(n) if other[v] != 2 and one[v] != other[v]]
                contained = set(reference.fitting(one)) <= set(reference.fitting(other))
                self.assertEqual(contained, not lacks)
                right = [("letter", letter) for letter in lacks]
                if not lacks:
                    rests = reference.restrictions(len(reference.free(other)))
                    right = [("rest", rest) for rest in rests if told.behind(other, rest) == one]
                    self.assertEqual(len(right), 1)
                every = [("letter", letter) for letter in range(n)]
                every += [("rest", rest) for rest in reference.restrictions(len(reference.free(other)))]
                wrong = [value for value in every if value not in right]
                self.takes_just(told.is_order_answer, (one, other), right, wrong)
                self.assertIn(told.order_answer(one, other), right)

    def test_both(self):
        for n in range(4):
            for one, other in itertools.product(reference.restrictions(n), repeat=2):
                common = [row for row in reference.fitting(one) if reference.fits(row, other)]
                right = [("letter", v) for v in range(n) if {one[v], other[v]} == {0, 1}]
                self.assertEqual(not common, bool(right))
                right = right or [("both", r) for r in reference.restrictions(n) if reference.fitting(r) == common]
                every = [("letter", letter) for letter in range(n)]
                every += [("both", restriction) for restriction in reference.restrictions(n)]
                wrong = [value for value in every if value not in right]
                self.takes_just(told.is_both_answer, (one, other), right, wrong)
                self.assertIn(told.both_answer(one, other), right)

    def test_around(self):
        for n in range(4):
            for one, other in itertools.product(reference.restrictions(n), repeat=2):
                all_rows = set(reference.fitting(one)) | set(reference.fitting(other))
                around = [r for r in reference.restrictions(n) if all_rows <= set(reference.fitting(r))]
                fewest = min(around, key=lambda r: len(reference.free(r)))
                self.assertEqual(told.around(one, other), fewest)

    def test_values_of_other_words(self):
        values = [("letter", (1, 2)), ("both", 0), ("rest", (1, 2), 0), ("letters", 0), ("rest", (2,))]
        values += [("rest", (1, 2, 2))]
        self.takes_just(told.is_order_answer, ((1, 0, 2), (2, 0, 2)), [("rest", (1, 2))], values)
        values = [("letter", (1,)), ("rest", (1, 0)), ("both", (1, 0), 0), ("both", (1,)), ("both", (1, 0, 2))]
        self.takes_just(told.is_both_answer, ((1, 2), (2, 0)), [("both", (1, 0))], values)

    def test_arguments(self):
        for function in (told.order_answer, told.both_answer, told.around):
            self.checks(function, support.any_restriction((2, 0)), support.restriction((1, 2)))
            self.checks(function, support.any_restriction(()), support.restriction(()))
        for function in (told.is_order_answer, told.is_both_answer):
            self.judges(function, support.any_restriction((2, 0)), support.restriction((1, 2)))
            self.judges(function, support.any_restriction((2, 0)), support.restriction((1, 0)))


class TestParts(support.Case):
    """[3.6]"""

    def check_parts(self, n, some):
        fits = {row: [at for at, r in enumerate(some) if reference.fits(row, r)] for row in reference.inputs(n)}
        right = [("none", row) for row in fits if not fits[row]]
        right += [("two", row, i, j) for row in fits for i, j in itertools.combinations(fits[row], 2)]
        apart = all(any({a, b} == {0, 1} for a, b in zip(*pair)) for pair in itertools.combinations(some, 2))
        whole = apart and sum(len(reference.fitting(r)) for r in some) == 2 ** n
        self.assertEqual(whole, not right)
        right = right or [("parts",)]
        every = [("parts",)] + [("none", row) for row in fits]
        indices = range(-1, len(some) + 1)
        every += [("two", row, i, j) for row in fits for i, j in itertools.product(indices, repeat=2)]
        if len(every) < 400:
            self.takes_just(told.is_parts_answer, (n, some), right, [value for value in every if value not in right])
        self.assertIn(told.parts_answer(n, some), right)

    def test_parts(self):
        for n in range(3):
            for size in range(4 if n < 2 else 3):
                for some in itertools.product(reference.restrictions(n), repeat=size):
                    self.check_parts(n, some)
        for _ in range(60):
            self.check_parts(3, self.random_parts(3))
            some = self.random_parts(3)
            self.check_parts(3, some[1:])
            self.check_parts(3, some + (CHANCE.choice(reference.restrictions(3)),))

    def random_parts(self, n):
        tree = reference.random_tree(CHANCE, list(range(n)))
        some = [reference.told((2,) * n, literals) for literals, _ in reference.ways(tree)]
        CHANCE.shuffle(some)
        return tuple(some)

    def test_values_of_other_words(self):
        some = ((2, 1), (2, 2))
        values = [("three", (0, 1), 0, 1), ("two", (0, 1), 0), ("two", (0, 1), 0, 1, 0), ("two", (0, 1), None, 1)]
        values += [("two", (0, 1), 0, 2), ("two", (0, 1), 0, 10 ** 20), ("two", (0, 1), -2, -1), ("some", (0, 1))]
        self.takes_just(told.is_parts_answer, (2, some), [("two", (0, 1), 0, 1)], values)

    def test_many(self):
        some = tuple((*row, 2, 2, 2) for row in reference.inputs(7))
        self.assertEqual(told.parts_answer(10, some), ("parts",))
        self.assertIn(told.parts_answer(10, some[:-1]), [("none", (1,) * 7 + row) for row in reference.inputs(3)])
        self.assertEqual(told.parts_answer(10, some + some[5:6])[2:], (5, 128))
        self.assertEqual(told.parts_answer(0, ()), ("none", ()))
        self.assertEqual(told.parts_answer(0, ((),)), ("parts",))

    def test_arguments(self):
        wrong = support.NO_TUPLES + [((2, 1), None), ((2, 1), [2, 1]), ((2,),), ((2, 2, 2),), ((2, 3),), ((True, 2),)]
        wrong += [((2, 2),) * 201, (0, 1), ((2, -1),), ((2, 10 ** 10),), ("22",)]
        some = support.Argument(((2, 1), (2, 0)), errors.InvalidRestriction, wrong)
        self.checks(told.parts_answer, support.letters(2), some)
        self.judges(told.is_parts_answer, support.letters(2), some)
        self.assertEqual(told.parts_answer(2, ((2, 2),) * 200)[0], "two")

    def test_what_is_not_true(self):
        """[3.7]"""
        self.assertEqual(told.parts_answer(1, ((0,),)), ("none", (1,)))
        self.assertTrue(told.is_both_answer((0, 0), (1, 1), ("letter", 0)))
        self.assertTrue(told.is_both_answer((0, 0), (1, 1), ("letter", 1)))


if __name__ == "__main__":
    unittest.main()
