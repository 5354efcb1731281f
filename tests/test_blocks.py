import itertools
import random
import unittest

import reference
import support
from deepcodes import errors
from deepcodes.circuits import circuits
from deepcodes.sums import blocks, leastsum

CHANCE = random.Random(1515)
PARTS = (
    ("letter", 0, 1), ("letter", 0, 0), ("letter", 1, 1), ("letter", 1, 0), ("and", (0, 3)), ("and", (1, 2)),
    ("or", (4, 5)),
)
LETTERS = support.number(10, 1, 10)


def all_sizes():
    return [sizes for many in range(5) for sizes in itertools.product(range(2, 11), repeat=many)]


def numbers(n, sizes):
    """The members ahead of each level and at last, by groups as [15.1] puts them."""
    members, found = list(range(n)), [n]
    for size in sizes:
        members = [members[at:at + size] for at in range(0, len(members), size)]
        found.append(len(members))
    return tuple(found)


def do_fit(n, sizes):
    found = numbers(n, sizes)
    return found[-1] == 1 and all(many >= 2 for many in found[:-1])


def lines(n, sizes):
    """The number of lines of [15.3]."""
    members, many = [(letter,) for letter in range(n)], 2 * n if n > 1 else 1
    for level, size in enumerate(sizes):
        groups = [members[at:at + size] for at in range(0, len(members), size)]
        for group in groups:
            if len(group) > 1:
                many += 2 ** (len(group) - 1) + 1 if level == len(sizes) - 1 else 2 ** len(group) + 2
        members = groups
    return many


def fitting(n, levels=None):
    return [sizes for sizes in all_sizes() if do_fit(n, sizes) and levels in (None, len(sizes))]


def wrong_sizes(n):
    wrong = support.NO_TUPLES + [(1,), (11,), (0,), (-1,), (None,), ("2",), ([],), (2, True), ((2,),), (10 ** 10,),
        [2, 2]]
    wrong += [sizes for sizes in all_sizes() if not do_fit(n, sizes)][:40] + [(2, 2, 2, 2, 2), (10,) * 5]
    wrong += [(1, 10), (10, 1), (1, 3, 4), (3, 1, 4), (11, 2), (0, 10)]
    return wrong


def sizes_argument(n, good):
    return support.Argument(good, errors.InvalidOperation, wrong_sizes(n))


class TestSizes(support.Case):
    """[15.1]"""

    def test_sizes(self):
        every = all_sizes()
        for n in range(1, 11):
            right = [sizes for sizes in every if do_fit(n, sizes)]
            wrong = CHANCE.sample([sizes for sizes in every if not do_fit(n, sizes)], 300)
            self.takes_just(blocks.is_sizes, (n,), CHANCE.sample(right, min(len(right), 60)), wrong + wrong_sizes(n))
            for sizes in right:
                self.assertEqual(blocks.members_of(n, sizes), numbers(n, sizes))

    def test_one_letter(self):
        self.takes_just(blocks.is_sizes, (1,), [()], [(2,), (2, 2), (10,), None, 1])
        self.assertEqual(blocks.members_of(1, ()), (1,))

    def test_constants(self):
        self.assertEqual(blocks.MOST_SIZE, 10)
        self.takes_just(blocks.is_sizes, (10,), [(10,), (2, 5), (9, 2), (2, 2, 2, 2)],
            [(11,), (2, 2, 2), (10, 2), (2,) * 5])
        self.takes_just(blocks.is_sizes, (2,), [(2,), (10,)], [(), (1,), (2, 2)])

    def test_arguments(self):
        self.judges(blocks.is_sizes, support.number(3, 1, 10))
        for n, sizes in ((10, (3, 4)), (2, (2,)), (6, (2, 3))):
            arguments = (support.number(n, 1, 10), sizes_argument(n, sizes))
            self.checks(blocks.members_of, *arguments)
            self.checks(blocks.blocks_number, *arguments)


class TestCircuits(support.Case):
    """[15.2], [15.3]"""

    def test_numbers(self):
        for n in range(1, 11):
            for sizes in fitting(n):
                self.assertEqual(blocks.blocks_number(n, sizes), lines(n, sizes))

    def test_circuits(self):
        for n in range(1, 11):
            odd = reference.table_by(n, reference.sum_of)
            for sizes in fitting(n):
                many = lines(n, sizes)
                if many > 120:
                    self.refuses(errors.TooMany, 120, blocks.sum_circuit, n, sizes)
                    continue
                circuit = blocks.sum_circuit(n, sizes)
                self.assertIs(circuits.is_circuit(n, circuit), True)
                self.assertLessEqual(len(circuit), many)
                self.assertLessEqual(circuits.circuit_depth(n, circuit), len(sizes) + 1 if n > 1 else 0)
                self.assertEqual(circuits.circuit_table(n, circuit), odd)
                self.assertIs(blocks.is_sum_circuit(n, sizes, circuit), True)
                self.assertIs(blocks.tells_sum(n, circuit), True)

    def test_plainly_evaluated(self):
        for n, sizes in ((1, ()), (2, (2,)), (3, (2, 2)), (4, (2, 2)), (5, (4, 2)), (5, (2, 2, 2)), (6, (2, 3)),
            (7, (3, 3))):
            circuit = blocks.sum_circuit(n, sizes)
            self.assertEqual(reference.circuit_table(n, circuit), reference.table_by(n, reference.sum_of))
            self.assertEqual(reference.circuit_depth(circuit), len(sizes) + 1 if n > 1 else 0)

    def test_any_sum_circuit(self):
        self.takes_just(blocks.is_sum_circuit, (1, ()), [(("letter", 0, 1),)], [
            (("letter", 0, 0),), (("letter", 0, 1), ("and", (0,))), (("letter", 0, 0), ("letter", 0, 1)), (("or", ()),),
        ])
        cosum = (
            *PARTS[:4], ("or", (1, 3)), ("or", (0, 2)), ("and", (4, 5)),
        )
        mixed = PARTS[:4] + (("or", (0, 2)), ("or", (1, 3)), ("and", (4, 5)))
        deep = PARTS[:4] + (("and", (0, 2)), ("or", (0, 2)), ("and", (1, 5)))
        wrong = [PARTS + (("or", (6,)),), circuits.not_of(2, PARTS), deep, PARTS[:6], (("and", ()),), None]
        self.takes_just(blocks.is_sum_circuit, (2, (2,)), [PARTS, cosum, mixed], wrong)

    def test_depth_and_lines_are_bound(self):
        four = blocks.sum_circuit(4, (2, 2))
        one_level = blocks.sum_circuit(4, (4,))
        self.assertEqual([len(four), len(one_level), blocks.blocks_number(4, (4,))], [23, 17, 17])
        self.assertIs(blocks.is_sum_circuit(4, (2, 2), one_level), True)
        self.assertIs(blocks.is_sum_circuit(4, (4,), four), False)
        padded = (("and", ()),) * 6 + tuple(
            (word, *rest) if word == "letter" else (word, tuple(at + 6 for at in rest[0])) for word, *rest in one_level
        )
        self.assertEqual(circuits.circuit_table(4, padded), circuits.circuit_table(4, four))
        self.assertIs(blocks.is_sum_circuit(4, (2, 2), padded), True)
        self.assertIs(blocks.is_sum_circuit(4, (2, 2), (("and", ()),) + tuple(
            (word, *rest) if word == "letter" else (word, tuple(at + 1 for at in rest[0])) for word, *rest in padded
        )), False)
        self.assertIs(blocks.is_sum_circuit(4, (4,), padded), False)
        # The depth alone is too great here.
        three = blocks.sum_circuit(8, (2, 2, 2))
        self.assertLess(len(three), blocks.blocks_number(8, (8,)))
        self.assertIs(blocks.is_sum_circuit(8, (8,), three), False)
        self.assertIs(blocks.is_sum_circuit(8, (2, 2, 2), three), True)

    def test_no_limit_of_the_judge(self):
        two = blocks.sum_circuit(10, (3, 4))
        self.refuses(errors.TooMany, 120, blocks.sum_circuit, 10, (10,))
        self.assertIs(blocks.is_sum_circuit(10, (10,), two), False)
        self.assertIs(blocks.is_sum_circuit(10, (9, 2), two), True)
        self.assertGreater(blocks.blocks_number(10, (9, 2)), 120)

    def test_arguments(self):
        for n, sizes in ((10, (3, 4)), (1, ()), (2, (2,))):
            arguments = (support.number(n, 1, 10), sizes_argument(n, sizes) if n > 1 else support.Argument(
                (), errors.InvalidOperation, [None, [], (2,), (1,), 0, "", {}, (2, 2)]
            ))
            self.checks(blocks.sum_circuit, *arguments)
            self.judges(blocks.is_sum_circuit, *arguments)


class TestGates(support.Case):
    """[15.4]"""

    def test_one_level(self):
        for n in range(2, 11):
            self.assertEqual(blocks.blocks_number(n, (n,)), 2 * n + 2 ** (n - 1) + 1)
        for n in range(2, 8):
            least = 2 ** (n - 1) + 1
            self.assertEqual(blocks.gates_needed(n, blocks.sum_circuit(n, (n,))), (least, least))

    def test_pushed_together(self):
        more = PARTS[:6] + (("or", (4,)), ("or", (5,)), ("and", ()), ("or", (6, 7)), )
        self.assertEqual(blocks.gates_needed(2, more), (3, 3))
        twice = PARTS[:6] + (("and", (0, 3)), ("or", (4, 5, 6)))
        self.assertEqual(blocks.gates_needed(2, twice), (4, 3))
        cosum = PARTS[:4] + (("or", (1, 3)), ("or", (0, 2)), ("and", (4, 5)))
        self.assertEqual(blocks.gates_needed(2, cosum), (3, 3))

    def test_refused(self):
        for n, circuit in ((2, PARTS[:6]), (3, PARTS), (1, (("letter", 0, 0),)), (2, circuits.not_of(2, PARTS)),
            (2, (("or", ()),))):
            self.refuses(errors.Refused, ("sum",), blocks.gates_needed, n, circuit)
        for n, circuit in (
            (1, (("letter", 0, 1),)), (1, (("letter", 0, 1), ("or", (0,)))),
            (1, (("letter", 0, 1), ("and", (0,)), ("or", (1,)))),
            (2, PARTS + (("and", (6,)),)), (4, blocks.sum_circuit(4, (2, 2))),
        ):
            self.refuses(errors.Refused, ("depth",), blocks.gates_needed, n, circuit)

    def test_great_lots(self):
        """64 ands tell the sum of 7 letters; with one of them twice the lot is too great."""
        seven = blocks.sum_circuit(7, (7,))
        self.assertEqual(blocks.gates_needed(7, seven), (65, 65))
        body, last = seven[:-1], seven[-1]
        self.assertEqual(len(last[1]), 64)
        more = body + (body[last[1][0]],)
        wide = more + (("or", last[1][:40]), ("or", (*last[1][40:], len(body))))
        wide += (("or", (len(more), len(more) + 1)),)
        self.assertIs(blocks.tells_sum(7, wide), True)
        self.assertEqual(circuits.circuit_depth(7, wide), 2)
        self.refuses(errors.TooMany, 64, blocks.gates_needed, 7, wide)
        self.refuses(errors.Refused, ("sum",), blocks.gates_needed, 8, wide)
        self.refuses(errors.Refused, ("depth",), blocks.gates_needed, 7, wide + (("and", (len(wide) - 1,)),))

    def test_tells_sum(self):
        for n in range(1, 5):
            for _ in range(40):
                circuit = reference.random_circuit(CHANCE, n, CHANCE.randint(1, 8))
                wanted = reference.circuit_table(n, circuit) == reference.table_by(n, reference.sum_of)
                self.assertIs(blocks.tells_sum(n, circuit), wanted)
        self.assertIs(blocks.tells_sum(2, PARTS), True)
        self.assertIs(blocks.tells_sum(3, PARTS), False)
        self.assertIs(blocks.tells_sum(1, (("letter", 0, 1), ("or", (0,)))), True)

    def test_arguments(self):
        for function in (blocks.tells_sum, blocks.gates_needed):
            self.checks(function, support.number(2, 1, 10), support.circuit(2, PARTS))
            self.refuses(errors.InvalidNumber, 0, function, 0, (("or", ()),))


class TestLeast(support.Case):
    """[15.5]"""

    def test_least_sizes(self):
        every = all_sizes()
        for n in range(1, 11):
            for levels in range(5):
                able = fitting(n, levels)
                least = min([lines(n, sizes) for sizes in able], default=None)
                right = [sizes for sizes in able if lines(n, sizes) == least]
                wrong = [sizes for sizes in able if lines(n, sizes) != least]
                wrong += CHANCE.sample([sizes for sizes in every if not do_fit(n, sizes)], 30)
                wrong += [sizes for sizes in fitting(n) if len(sizes) != levels][:40]
                self.takes_just(blocks.is_least_sizes, (n, levels), right, wrong)
                if right:
                    self.assertIn(blocks.least_sizes(n, levels), right)
                else:
                    self.refuses(errors.Refused, ("none",), blocks.least_sizes, n, levels)

    def test_none(self):
        self.assertEqual(blocks.least_sizes(1, 0), ())
        for n, levels in ((1, 1), (1, 4), (2, 0), (2, 2), (3, 3), (4, 3), (10, 0)):
            self.refuses(errors.Refused, ("none",), blocks.least_sizes, n, levels)
            self.assertIs(blocks.is_least_sizes(n, levels, (2,) * levels), False)

    def test_arguments(self):
        for n, levels in ((10, 2), (5, 2), (1, 0)):
            arguments = (support.number(n, 1, 10), support.number(levels, 0, 4))
            self.checks(blocks.least_sizes, *arguments)
            self.judges(blocks.is_least_sizes, *arguments)
        self.judges(blocks.is_least_sizes, support.number(2, 1, 10), support.number(4, 0, 4))


class TestNotTrue(support.Case):
    """[15.6]"""

    def test_more_levels(self):
        least = {levels: blocks.blocks_number(4, blocks.least_sizes(4, levels)) for levels in (1, 2)}
        self.assertLess(least[1], least[2])

    def test_ascending(self):
        self.assertIs(blocks.is_least_sizes(10, 3, (3, 3, 2)) and not blocks.is_least_sizes(10, 3, (2, 3, 3)), True)

    def test_products(self):
        self.assertIs(blocks.is_sizes(10, (3, 4)), True)
        self.assertNotEqual(3 * 4, 10)

    def test_formulas_have_as_many_terms(self):
        self.assertEqual(blocks.blocks_number(7, (7,)), 14 + len(leastsum.sum_formula(7)) + 1)


if __name__ == "__main__":
    unittest.main()
