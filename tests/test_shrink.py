import itertools
import random
import unittest

import reference
import support
from deepcodes import errors
from deepcodes.small import shrink

CHANCE = random.Random(1818)
TWICE = ("or", ("and", (0, 1), (1, 1)), ("and", (0, 1), (2, 1)))
CUT = ("and", (0, 1), ("or", (0, 1), (1, 1)))


def some_bushes(n, many=40, most=9):
    """Bushes that are 0, 1 or one leaf, and others."""
    found = [0, 1] + [(letter, bit) for letter in range(n) for bit in (0, 1)]
    return found + [reference.random_bush(CHANCE, n, CHANCE.randint(2, most)) for _ in range(many)]


def long_chain(many, letters):
    """A bush as deep as it has gates, of which each gate has a leaf."""
    found = (0, 1)
    for at in range(many):
        leaf = (at % letters, CHANCE.randrange(2))
        word = CHANCE.choice(("and", "or"))
        found = CHANCE.choice(((word, found, leaf), (word, leaf, found)))
    return found


class TestBushes(support.Case):
    """[18.1]"""

    def test_tables(self):
        for n in range(5):
            for bush in some_bushes(n):
                self.assertEqual(shrink.bush_table(n, bush), reference.bush_table(n, bush))
                self.assertEqual(shrink.leaves(n, bush), tuple(reference.bush_leaves(bush)))
                self.assertIs(shrink.is_bush(n, bush), True)

    def test_is_bush(self):
        for n in range(4):
            for bush in some_bushes(n, 25, 6):
                self.takes_just(shrink.is_bush, (n,), [bush])
                if any(letter == n - 1 for letter, _ in reference.bush_leaves(bush)):
                    self.assertIs(shrink.is_bush(n - 1, bush), False)
            wrong = [value for value in support.bush(n, 0).wrong]
            wrong += [("and", ("or", value, (0, 0)), 1) for value in wrong if value != (n, 1)]
            self.takes_just(shrink.is_bush, (n,), [], wrong)

    def test_size(self):
        """At most 127 gates, however they stand and however many leaves are 0 or 1."""
        self.assertEqual(shrink.MOST_LEAVES, 128)
        for leaf in (0, 1, (0, 1)):
            for many, wanted in ((127, True), (128, False), (199, False)):
                self.assertIs(shrink.is_bush(1, support.chain(many, leaf)), wanted)
        even = (0, 1)
        for _ in range(7):
            even = ("or", even, even)
        self.assertIs(shrink.is_bush(1, even), True)
        self.assertEqual(len(shrink.leaves(1, even)), 128)
        self.assertIs(shrink.is_bush(1, ("and", even, 1)), False)
        self.assertIs(shrink.is_bush(1, ("and", even, even)), False)

    def test_greatest_ones(self):
        for _ in range(10):
            bush = long_chain(127, 10)
            row = tuple(CHANCE.randrange(2) for _ in range(10))
            self.assertEqual(shrink.bush_table(10, bush)[reference.number_of(row)], reference.bush_value(bush, row))
            self.assertEqual(len(shrink.leaves(10, bush)), 128)
            self.assertEqual(shrink.told_letter(10, bush, 3, 1), reference.bush_told(bush, 3, 1))
            self.check_nice(10, bush)

    def check_nice(self, n, bush):
        nice = shrink.nice_bush(n, bush)
        self.assertIs(shrink.is_nice_answer(n, nice, ("nice",)), True)
        self.assertEqual(shrink.bush_table(n, nice), shrink.bush_table(n, bush))
        self.assertLessEqual(len(shrink.leaves(n, nice)), len(shrink.leaves(n, bush)))

    def test_arguments(self):
        self.judges(shrink.is_bush, support.letters(0))
        self.judges(shrink.is_bush, support.letters(2))
        for n, bush in ((3, TWICE), (0, 1), (2, CUT)):
            for function in (shrink.leaves, shrink.bush_table, shrink.nice_answer, shrink.nice_bush):
                self.checks(function, support.letters(n), support.bush(n, bush))


class TestTold(support.Case):
    """[18.2]"""

    def test_told(self):
        for n in range(1, 4):
            for bush in some_bushes(n):
                for letter, bit in itertools.product(range(n), (0, 1)):
                    found = shrink.told_letter(n, bush, letter, bit)
                    self.assertEqual(found, reference.bush_told(bush, letter, bit))
                    self.assertTrue(found in (0, 1) or self.has_no_end(found), found)
                    for row in reference.inputs(n):
                        if row[letter] == bit:
                            self.assertEqual(reference.bush_value(found, row), reference.bush_value(bush, row))

    def has_no_end(self, bush):
        return all(part not in (0, 1) for _, part in reference.bush_parts(bush))

    def test_others_go_too(self):
        """A side 0 or 1 goes though it has not come of the letter."""
        self.assertEqual(shrink.told_letter(2, ("and", ("or", (1, 1), 0), 1), 0, 0), (1, 1))
        self.assertEqual(shrink.told_letter(1, ("or", 0, 0), 0, 0), 0)
        self.assertEqual([shrink.told_letter(1, (0, 1), 0, bit) for bit in (0, 1)], [0, 1])
        self.assertEqual([shrink.told_letter(1, bush, 0, 1) for bush in (0, 1)], [0, 1])

    def test_arguments(self):
        self.checks(shrink.told_letter, support.letters(3), support.bush(3, TWICE), support.number(2, 0, 2),
                    support.number(1, 0, 1))
        self.refuses(errors.InvalidNumber, 0, shrink.told_letter, 0, 1, 0, 5)


class TestNice(support.Case):
    """[18.3]"""

    def test_answers(self):
        for n in range(4):
            for bush in some_bushes(n, 50):
                paths = reference.cut_paths(bush)
                answer = shrink.nice_answer(n, bush)
                right = [("cut", path) for path in paths] or [("nice",)]
                self.assertIn(answer, right)
                every = [path for path, _ in reference.bush_parts(bush)]
                others = [("cut", path) for path in every if path not in paths]
                others += [("cut", (*path, bit)) for path in every for bit in (0, 1) if (*path, bit) not in every]
                others += [("nice",)] if paths else []
                self.takes_just(shrink.is_nice_answer, (n, bush), right, others)

    def test_nice_bushes(self):
        for n in range(4):
            for bush in some_bushes(n, 80, 14):
                nice = shrink.nice_bush(n, bush)
                self.assertEqual(reference.cut_paths(nice), [])
                self.assertEqual(reference.bush_table(n, nice), reference.bush_table(n, bush))
                self.assertLessEqual(len(reference.bush_leaves(nice)), len(reference.bush_leaves(bush)))

    def test_every_kind_of_cut(self):
        for word, bit, side in itertools.product(("and", "or"), (0, 1), (0, 1)):
            inner = ("or" if word == "and" else "and", (0, bit), (1, 1))
            sides = ((0, 1), inner) if side else (inner, (0, 1))
            bush = (word, *sides)
            self.assertEqual(shrink.nice_answer(2, bush), ("cut", ()))
            nice = shrink.nice_bush(2, bush)
            self.assertEqual(reference.cut_paths(nice), [])
            self.assertEqual(reference.bush_table(2, nice), reference.bush_table(2, bush))

    def test_arguments(self):
        for n, bush in ((3, TWICE), (2, CUT), (0, 0), (1, (0, 1)), (1, ("or", 0, (0, 1)))):
            self.judges(shrink.is_nice_answer, support.letters(n), support.bush(n, bush))


class TestTaken(support.Case):
    """[18.4]"""

    def nice_bushes(self, n):
        return [shrink.nice_bush(n, bush) for bush in some_bushes(n, 40, 16)]

    def test_taken(self):
        for n in range(5):
            for bush in self.nice_bushes(n):
                many = len(reference.bush_leaves(bush))
                pairs = []
                for letter in range(n):
                    told = [reference.bush_told(bush, letter, bit) for bit in (0, 1)]
                    pairs.append(tuple(many - len(reference.bush_leaves(part)) for part in told))
                self.assertEqual(shrink.taken(n, bush), tuple(pairs))
                if many >= 2:
                    self.assertGreaterEqual(sum(sum(pair) for pair in pairs), 3 * many)
                if n:
                    settings = [(letter, bit) for letter in range(n) for bit in (0, 1)]
                    best = max(pairs[letter][bit] for letter, bit in settings)
                    first = [(letter, bit) for letter, bit in settings if pairs[letter][bit] == best][0]
                    self.assertEqual(shrink.best_setting(n, bush), first)
                    if many >= 2:
                        self.assertGreaterEqual(best * 2 * n, 3 * many)

    def test_edges(self):
        self.assertEqual([shrink.taken(0, 0), shrink.taken(2, 1), shrink.taken(2, (1, 0))],
                         [(), ((0, 0), (0, 0)), ((0, 0), (1, 1))])
        self.assertEqual([shrink.best_setting(2, 1), shrink.best_setting(2, (1, 0))], [(0, 0), (1, 0)])

    def test_arguments(self):
        for function in (shrink.taken, shrink.best_setting):
            self.checks(function, support.letters(3), support.bush(3, TWICE))
            for bush in (CUT, ("and", 1, (0, 1)), ("or", (1, 1), (1, 0)), ("and", (0, 1), ("or", TWICE, (1, 1)))):
                self.refuses(errors.InvalidOperation, None, function, 3, bush)
            self.refuses(errors.InvalidFormula, None, function, 0, CUT)
        self.assertEqual(shrink.taken(0, 1), ())
        self.refuses(errors.InvalidOperation, None, shrink.best_setting, 0, 1)
        self.refuses(errors.InvalidOperation, None, shrink.taken, 0, ("and", 0, 1))


class TestLed(support.Case):
    """[18.5], [18.6]"""

    def test_least_leaves(self):
        least = [0, 1]
        for n in range(2, 11):
            able = itertools.count()
            least.append(next(number for number in able if (2 * n - 3) * number >= 2 * n * least[-1]))
        self.assertEqual([shrink.least_leaves(n) for n in range(11)], least)
        self.assertEqual(least[5], 19)

    def test_sum_bushes(self):
        for n in range(11):
            bush = shrink.sum_bush(n)
            self.assertIs(shrink.is_bush(n, bush), True)
            self.assertEqual(shrink.bush_table(n, bush), reference.table_by(n, reference.sum_of))
            self.assertGreaterEqual(len(shrink.leaves(n, bush)), shrink.least_leaves(n))
        self.assertEqual([shrink.sum_bush(n) for n in (0, 1)], [0, (0, 1)])
        self.assertEqual(shrink.sum_bush(2), ("or", ("and", (0, 1), (1, 0)), ("and", (0, 0), (1, 1))))
        one, other = shrink.sum_bush(1), shrink.sum_bush(2)
        self.assertEqual(shrink.sum_bush(3)[1][1], one)
        self.assertEqual(shrink.sum_bush(3)[2][2], ("or", ("and", (1, 1), (2, 0)), ("and", (1, 0), (2, 1))))
        self.assertEqual(shrink.sum_bush(4)[1][1], other)
        self.assertEqual(shrink.sum_bush(3)[1][2], ("or", ("and", (1, 1), (2, 1)), ("and", (1, 0), (2, 0))))

    def is_right(self, n, bush, literals, row):
        rows = [other for other in reference.inputs(n) if reference.keeps(other, literals)]
        values = {reference.bush_value(bush, other) for other in rows}
        return len(literals) < n and row in rows and values == {1 - reference.sum_of(row)}

    def test_led(self):
        for n in range(7):
            least = shrink.least_leaves(n)
            for bush in some_bushes(n, 60, max(2, min(least + 2, 20))):
                if len(reference.bush_leaves(bush)) >= least:
                    self.refuses(errors.Refused, ("leaves", least), shrink.led_answer, n, bush)
                    continue
                literals, row = shrink.led_answer(n, bush)
                self.assertEqual(len({letter for letter, _ in literals}), len(literals))
                self.assertTrue(self.is_right(n, bush, literals, row), (bush, literals, row))
                self.assertIs(shrink.is_led(n, bush, (literals, row)), True)

    def test_ten_letters(self):
        """Just below the bound, all letters among the leaves."""
        for n in (8, 9, 10):
            many = shrink.least_leaves(n) - 1
            for _ in range(5):
                bush = reference.random_bush(CHANCE, n, many)
                answer = shrink.led_answer(n, bush)
                self.assertIs(shrink.is_led(n, bush, answer), True)
                self.assertTrue(self.is_right(n, bush, *answer))

    def test_is_led(self):
        """Any literals in any sequence, for bushes with any number of leaves."""
        for n in range(4):
            for bush in some_bushes(n, 5, 6) + [shrink.sum_bush(n)]:
                every = [
                    (tuple(zip(letters, bits)), row)
                    for size in range(n + 1) for letters in itertools.permutations(range(n), size)
                    for bits in itertools.product((0, 1), repeat=size) for row in reference.inputs(n)
                ]
                for literals, row in every:
                    wanted = self.is_right(n, bush, literals, row)
                    self.assertIs(shrink.is_led(n, bush, (literals, row)), wanted)
                right = [pair for pair in every if self.is_right(n, bush, *pair)][:4]
                self.takes_just(shrink.is_led, (n, bush), right)
        self.assertIs(shrink.is_led(3, 0, (((0, 1), (0, 1)), (1, 0, 0))), False)
        self.assertIs(shrink.is_led(3, 0, (((0, 1), (0, 0)), (1, 0, 0))), False)
        self.assertIs(shrink.is_led(3, 0, (((1, 0), (0, 1)), (1, 0, 0))), True)
        self.assertIs(shrink.is_led(3, 0, (((0, 1),), (1, 0, 0), ())), False)

    def test_no_letters(self):
        for bush in (0, 1):
            self.refuses(errors.Refused, ("leaves", 0), shrink.led_answer, 0, bush)
            self.assertIs(shrink.is_led(0, bush, ((), ())), False)

    def test_arguments(self):
        for function in (shrink.least_leaves, shrink.sum_bush):
            self.checks(function, support.letters(4))
        self.checks(shrink.led_answer, support.letters(3), support.bush(3, TWICE))
        self.refuses(errors.Refused, ("leaves", 4), shrink.led_answer, 2, ("or", CUT, (1, 0)))
        for n, bush in ((3, TWICE), (1, 0), (0, 1), (2, shrink.sum_bush(2))):
            self.judges(shrink.is_led, support.letters(n), support.bush(n, bush))


class TestNotTrue(support.Case):
    """[18.7]"""

    def test_a_nice_bush_that_is_not_least(self):
        least = ("and", (0, 1), ("or", (1, 1), (2, 1)))
        self.assertEqual(shrink.nice_answer(3, TWICE), ("nice",))
        self.assertEqual(shrink.bush_table(3, TWICE), shrink.bush_table(3, least))
        self.assertLess(len(shrink.leaves(3, least)), len(shrink.leaves(3, shrink.nice_bush(3, TWICE))))


if __name__ == "__main__":
    unittest.main()
