import itertools
import random
import unittest

import reference
import support
from deepcodes import errors
from deepcodes.small import rects, shrink

CHANCE = random.Random(1919)
ODD = ("or", ("and", (0, 1), (1, 0)), ("and", (0, 0), (1, 1)))
TWICE = ("or", ("and", (0, 1), (1, 1)), ("and", (0, 1), (2, 1)))


def numbers_at(table, bit):
    return tuple(number for number, value in enumerate(table) if value == bit)


def some_of(numbers):
    return tuple(number for number in numbers if CHANCE.random() < 0.6)


def row_of(n, number):
    return reference.inputs(n)[number]


def pair_count(n, yes, no):
    pairs = itertools.product(yes, no)
    return len([pair for pair in pairs if reference.are_neighbours(*[row_of(n, number) for number in pair])])


def parts(n, bush, yes, no):
    """What comes to each leaf, number by number."""
    if not reference.is_bush_gate(bush):
        return [(bush, yes, no)] if reference.is_bush_leaf(bush) else []
    word, first, second = bush
    there = [number for number in yes + no if reference.bush_value(first, row_of(n, number))]
    if word == "and":
        some = tuple(number for number in no if number not in there)
        others = tuple(number for number in no if number in there)
        return parts(n, first, yes, some) + parts(n, second, yes, others)
    some = tuple(number for number in yes if number in there)
    others = tuple(number for number in yes if number not in there)
    return parts(n, first, some, no) + parts(n, second, others, no)


def numbers(good, others):
    """An ascending tuple of numbers of inputs, of which the others are none."""
    wrong = support.NO_TUPLES + [list(good), (None,), (True,), (-1,), ("0",), ((0,),), (10 ** 10,), (*good, 5000)]
    wrong += [(other,) for other in others] + ([(*good, good[-1]), (*good[::-1], good[-1])] if good else [])
    return support.Argument(good, errors.InvalidOperation, wrong)


class TestParts(support.Case):
    """[19.1], [19.2], [19.3]"""

    def bushes(self, n):
        found = [0, 1] + [(letter, bit) for letter in range(n) for bit in (0, 1)]
        return found + [reference.random_bush(CHANCE, n, CHANCE.randint(2, 9)) for _ in range(40)]

    def test_parts(self):
        for n in range(5):
            for bush in self.bushes(n):
                table = reference.bush_table(n, bush)
                sides = [numbers_at(table, 1), numbers_at(table, 0)]
                for yes, no in (sides, [some_of(side) for side in sides], [(), sides[1]], [sides[0], ()], [(), ()]):
                    self.check(n, bush, yes, no)

    def check(self, n, bush, yes, no):
        wanted = parts(n, bush, yes, no)
        self.assertEqual(rects.leaf_parts(n, bush, yes, no), tuple((some, others) for _, some, others in wanted))
        marks = []
        for (letter, bit), some, others in wanted:
            self.assertTrue(all(row_of(n, number)[letter] == bit for number in some))
            self.assertTrue(all(row_of(n, number)[letter] == 1 - bit for number in others))
            count = pair_count(n, some, others)
            self.assertLessEqual(count, min(len(some), len(others)))
            marks.append((count, len(some), len(others)))
        self.assertEqual(rects.leaf_marks(n, bush, yes, no), tuple(marks))
        every = [pair for _, some, others in wanted for pair in itertools.product(some, others)]
        self.assertEqual(sorted(every), sorted(itertools.product(yes, no)))
        self.assertEqual(sum(count for count, _, _ in marks), rects.neighbour_count(n, yes, no))
        self.assertLessEqual(rects.leaves_at_least(n, yes, no), len(marks))

    def test_counts(self):
        for n in range(5):
            for _ in range(30):
                yes, no = [some_of(tuple(range(2 ** n))) for _ in range(2)]
                count = pair_count(n, yes, no)
                self.assertEqual(rects.neighbour_count(n, yes, no), count)
                many = len(yes) * len(no)
                least = [number for number in range(n * n + 1) if number * many >= count * count]
                self.assertEqual(rects.leaves_at_least(n, yes, no), least[0])

    def test_edges(self):
        for yes, no in (((), ()), ((0,), ()), ((), (0, 1)), ((0,), (3,)), ((2,), (2,))):
            self.assertEqual([rects.neighbour_count(2, yes, no), rects.leaves_at_least(2, yes, no)], [0, 0])
        self.assertEqual([rects.neighbour_count(0, (0,), (0,)), rects.leaves_at_least(0, (0,), ())], [0, 0])
        self.assertEqual([rects.leaf_parts(0, 1, (0,), ()), rects.leaf_marks(2, 0, (), (0, 3))], [(), ()])
        every = tuple(range(1024))
        self.assertEqual(rects.neighbour_count(10, every, every), 10240)
        self.assertEqual(rects.leaves_at_least(10, every, every), 100)

    def test_greatest_bush(self):
        bush = shrink.sum_bush(10)
        odd = reference.table_by(10, reference.sum_of)
        yes, no = numbers_at(odd, 1), numbers_at(odd, 0)
        marks = rects.leaf_marks(10, bush, yes, no)
        self.assertEqual([len(marks), sum(count for count, _, _ in marks)], [112, 5120])
        self.assertEqual(sum(many * others for _, many, others in marks), 512 * 512)
        chain = support.chain(127, (0, 1))
        self.assertEqual(rects.leaf_parts(1, chain, (1,), (0,)), ((((1,), (0,)),) + (((1,), ()),) * 127))

    def test_arguments(self):
        for n, bush, yes, no in ((2, ODD, (1, 2), (0,)), (3, TWICE, (7,), (0, 1, 4)), (2, 0, (), (1, 3))):
            table = reference.bush_table(n, bush)
            outside = [-1, 2 ** n]
            arguments = (
                support.letters(n), support.bush(n, bush), numbers(yes, outside + list(numbers_at(table, 0))),
                numbers(no, outside + list(numbers_at(table, 1))),
            )
            self.checks(rects.leaf_parts, *arguments)
            self.checks(rects.leaf_marks, *arguments)
            arguments = (support.letters(n), numbers(yes, outside), numbers(no, outside))
            self.checks(rects.neighbour_count, *arguments)
            self.checks(rects.leaves_at_least, *arguments)
        for function in (rects.neighbour_count, rects.leaves_at_least):
            self.refuses(errors.InvalidOperation, None, function, 0, (1,), (0,))


class TestPapers(support.Case):
    """[19.3], [19.4]"""

    def test_papers(self):
        for n in range(4):
            for table in reference.tables(n) if n < 3 else CHANCE.sample(reference.tables(3), 40):
                yes, no = numbers_at(table, 1), numbers_at(table, 0)
                word, some, others, many = rects.rect_paper(table)
                self.assertEqual((word, some, others), ("leaves", yes, no))
                self.assertEqual(many, rects.leaves_at_least(n, yes, no))
                self.takes_just(rects.is_rect_paper, (table,), [("leaves", yes, no, less) for less in range(many + 1)],
                                [("leaves", yes, no, many + 1), ("leaves", yes, no, -1), ("leaf", yes, no, 0)])

    def test_any_numbers(self):
        for n in range(4):
            for _ in range(15):
                table = tuple(CHANCE.randrange(2) for _ in range(2 ** n))
                yes, no = some_of(numbers_at(table, 1)), some_of(numbers_at(table, 0))
                many = rects.leaves_at_least(n, yes, no)
                others = [("leaves", yes, no, many + 1), ("leaves", yes, no, many, ()), ("leaves", yes, no)]
                others += [("leaves", (*yes, number), no, 0) for number in (-1, 2 ** n, 10 ** 30, None)]
                others += [("leaves", (number,), no, 0) for number in numbers_at(table, 0)]
                others += [("leaves", yes, (number,), 0) for number in numbers_at(table, 1)]
                others += [("leaves", yes[::-1], no, 0)] if len(yes) > 1 else []
                others += [("leaves", yes, no + no, 0)] if no else []
                self.takes_just(rects.is_rect_paper, (table,), [("leaves", yes, no, many)], others)

    def test_the_sum(self):
        for n in range(11):
            odd = reference.table_by(n, reference.sum_of)
            many = len(reference.bush_leaves(shrink.sum_bush(n)))
            self.assertEqual(rects.sum_bounds(n), (n * n, many))
            if n:
                power = max(k for k in range(4) if 2 ** k <= n)
                self.assertEqual(many, 2 ** power * (3 * n - 2 ** (power + 1)))
                self.assertEqual(rects.neighbour_count(n, numbers_at(odd, 1), numbers_at(odd, 0)), n * 2 ** (n - 1))
                self.assertEqual(rects.rect_paper(odd)[3], n * n)
            self.assertGreaterEqual(n * n, shrink.least_leaves(n))
        self.assertEqual([rects.sum_bounds(n) for n in (0, 1, 2, 4, 8)], [(n * n, n * n) for n in (0, 1, 2, 4, 8)])

    def test_arguments(self):
        for table in ((0, 1, 1, 0), (1,), (0, 0), (0, 1)):
            self.checks(rects.rect_paper, support.table(table))
            self.judges(rects.is_rect_paper, support.table(table))
        self.checks(rects.sum_bounds, support.letters(3))


class TestNotTrue(support.Case):
    """[19.5]"""

    def test_more_inputs_make_less(self):
        self.assertEqual(rects.leaves_at_least(3, (0,), (1, 2, 4)), 3)
        self.assertEqual(rects.leaves_at_least(3, (0,), (1, 2, 3, 4, 5, 6)), 2)

    def test_many_leaves_and_a_small_bound(self):
        """The table needs five leaves, as no bush of fewer has it, and the bound tells fewer."""
        most = (0, 0, 0, 1, 0, 1, 1, 1)
        self.assertEqual(least_bush_leaves(3)[most], 5)
        self.assertLess(rects.rect_paper(most)[3], 5)


def least_bush_leaves(n):
    """For each table the least number of leaves of a bush that has it."""
    found = {(bit,) * 2 ** n: 0 for bit in (0, 1)}
    levels = [set(found)]
    while len(found) < 2 ** 2 ** n:
        size, level = len(levels), set()
        if size == 1:
            level = {reference.table_by(n, lambda row: row[v] == b) for v in range(n) for b in (0, 1)}
        for first in range(1, size):
            for one, other in itertools.product(levels[first], levels[size - first]):
                level.add(tuple(a & b for a, b in zip(one, other)))
                level.add(tuple(a | b for a, b in zip(one, other)))
        levels.append({table for table in level if table not in found})
        found.update({table: size for table in levels[-1]})
    return found


if __name__ == "__main__":
    unittest.main()
