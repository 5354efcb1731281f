import itertools
import math
import random
import unittest

import reference
import support
from deepcodes import errors
from deepcodes.letters import rows
from deepcodes.waves import waves

CHANCE = random.Random(1616)
AND = (0, 0, 0, 1)


def some_tables(most=3, many=12):
    """All tables of few letters, and some of more."""
    for n in range(most + 1):
        every = reference.tables(n) if n < 3 else [reference.table_by(3, reference.sum_of)]
        yield from ((n, table) for table in every)
        if n >= 3:
            yield from ((n, random_table(n)) for _ in range(many))


def random_table(n):
    return tuple(CHANCE.randrange(2) for _ in range(2 ** n))


def lot(good):
    wrong = support.NO_TUPLES + [list(good), (3,), (-1,), (0, 0), (1, 0), (True,), (False,), ("0",), ((0,),), (None,)]
    return support.Argument(good, errors.InvalidOperation, wrong + [(10 ** 10,), (0, 1, 2, 3), (*good, 5)])


class TestWaves(support.Case):
    """[16.1], [16.2]"""

    def test_waves(self):
        for n, table in some_tables():
            found = waves.waves(table)
            self.assertEqual(list(found), reference.lots(range(n)))
            for lot_of_letters, number in found.items():
                self.assertEqual(number, reference.wave(table, lot_of_letters))
                self.assertEqual(waves.wave(table, lot_of_letters), number)
            self.assertEqual(sum(number * number for number in found.values()), 4 ** n)

    def test_back(self):
        for n, table in some_tables():
            found = waves.waves(table)
            for row in reference.inputs(n):
                signed = sum(number * (-1) ** sum(row[v] for v in letters) for letters, number in found.items())
                self.assertEqual(signed, 2 ** n if reference.value(table, row) == 0 else -2 ** n)
            self.assertEqual(waves.table_by(n, found), table)
            self.assertEqual(waves.table_by(n, dict(reversed(found.items()))), table)

    def test_is_waves(self):
        for n, table in some_tables(2):
            found = waves.waves(table)
            self.takes_just(waves.is_waves, (n,), [found, dict(reversed(found.items()))])
            every = [waves.waves(other) for other in reference.tables(n)]
            for letters in found:
                wrong = [{**found, letters: found[letters] + step} for step in (1, -1, 2, -2, 10 ** 30)]
                wrong += [{**found, letters: -found[letters]}]
                wrong += [{**found, letters: None}, {**found, letters: str(found[letters])}]
                wrong += [{key: found[key] for key in found if key != letters}]
                wrong += [{**found, (n,): 0}, {**found, (*letters, n): 0}, {**found, None: 0}]
                self.takes_just(waves.is_waves, (n,), [], [value for value in wrong if value not in every])
            self.assertIs(waves.is_waves(n + 1, found), False)

    def test_no_others(self):
        """All small dicts: just as many are taken as there are tables."""
        for n, bound in ((0, 3), (1, 3), (2, 4)):
            lots = reference.lots(range(n))
            taken = []
            for numbers in itertools.product(range(-bound, bound + 1), repeat=2 ** n):
                value = dict(zip(lots, numbers))
                if waves.is_waves(n, value):
                    taken.append(waves.table_by(n, value))
            self.assertEqual(sorted(taken), sorted(reference.tables(n)))

    def test_keys(self):
        found = waves.waves(AND)
        for key in ((True,), (1, 0), "1", 1, (1, 1), (2,)):
            wrong = {lots: number for lots, number in found.items() if lots != (1,)}
            wrong[key] = 2
            self.assertIs(waves.is_waves(2, wrong), False)
            self.refuses(errors.InvalidOperation, None, waves.table_by, 2, wrong)
        self.assertIs(waves.is_waves(0, {(): True}), False)
        self.assertEqual([waves.table_by(0, {(): 1}), waves.table_by(0, {(): -1})], [(0,), (1,)])

    def test_ten_letters(self):
        odd = reference.table_by(10, reference.sum_of)
        for table in (odd, random_table(10), (0,) * 1024):
            found = waves.waves(table)
            self.assertEqual(waves.table_by(10, found), table)
            self.assertEqual(waves.wave(table, tuple(range(10))), reference.whole_wave(table))
        self.assertEqual({key for key, number in waves.waves(odd).items() if number}, {tuple(range(10))})

    def test_arguments(self):
        self.checks(waves.wave, support.table((0, 1, 1, 0, 1, 0, 0, 1)), lot((0, 2)))
        self.checks(waves.wave, support.table((1,)), lot(()))
        self.refuses(errors.InvalidOperation, None, waves.wave, (1,), (0,))
        self.checks(waves.waves, support.table((0, 1)))
        bad = [None, True, 0, (), [], "", {}, {(): 4, (0,): 0, (1,): 0}, {(): 2, (0,): 2, (1,): 2, (0, 1): 2}]
        bad += [{(): 2, (0,): 2, (1,): 2, (0, 1): 10 ** 40}, [((), 2)], {(): 4, (0,): False, (1,): 0, (0, 1): 0}]
        bad += [{(): 1}, {None: 4, (0,): 0, (1,): 0, (0, 1): 0}, errors.InvalidTable("x")]
        good = support.Argument(waves.waves(AND), errors.InvalidOperation, bad)
        self.checks(waves.table_by, support.letters(2), good)
        for n in (0, 1, 2):
            self.judges(waves.is_waves, support.letters(n))
        self.judges(waves.is_waves, support.letters(10))


class TestUnder(support.Case):
    """[16.3]"""

    def test_waves_under(self):
        for n, table in some_tables(3, 6):
            for restriction in reference.restrictions(n):
                found = waves.waves_under(restriction, table)
                self.assertEqual(found, reference.waves_under(restriction, table))
                self.assertEqual(list(found), sorted(found))
                told = [letter for letter in range(n) if restriction[letter] != 2]
                for letters, number in found.items():
                    signed = 0
                    for others in reference.lots(told):
                        sign = (-1) ** sum(restriction[letter] for letter in others)
                        signed += sign * waves.wave(table, tuple(sorted(letters + others)))
                    self.assertEqual(2 ** len(told) * number, signed)

    def test_squares(self):
        table = random_table(4)
        for free in reference.lots(range(4)):
            some = [r for r in reference.restrictions(4) if tuple(reference.free(r)) == free]
            for letters in reference.lots(free):
                squares = sum(waves.waves_under(r, table)[letters] ** 2 for r in some)
                told = [letter for letter in range(4) if letter not in free]
                others = reference.lots(told)
                wanted = sum(waves.wave(table, tuple(sorted(letters + other))) ** 2 for other in others)
                self.assertEqual(squares * 2 ** len(told), wanted)

    def test_edges(self):
        self.assertEqual(waves.waves_under((), (1,)), {(): -1})
        self.assertEqual(waves.waves_under((1, 1), AND), {(): -1})
        self.assertEqual(waves.waves_under((2, 2), AND), waves.waves(AND))
        wide = waves.waves_under((2,) * 4 + (0, 1) + (2,) * 4, reference.table_by(10, lambda row: row[5] & row[9]))
        self.assertEqual({key: number for key, number in wide.items() if number}, {(9,): 256})

    def test_arguments(self):
        restriction, table = support.any_restriction((2, 0)), support.table_like(AND)
        self.checks(waves.waves_under, restriction, table)
        self.checks(waves.waves_under, support.any_restriction(()), support.table_like((1,)))


class TestDegrees(support.Case):
    """[16.4]"""

    def test_weights(self):
        for n, table in some_tables():
            squares = [0] * (n + 1)
            for letters in reference.lots(range(n)):
                squares[len(letters)] += reference.wave(table, letters) ** 2
            self.assertEqual(waves.weights(table), tuple(squares))
            self.assertEqual(waves.degree(table), max(size for size in range(n + 1) if squares[size]))
            depth = reference.least_depth(table)
            self.assertLessEqual(waves.degree(table), depth)
            for number in waves.waves(table).values():
                self.assertEqual(number % 2 ** (n - depth), 0)

    def test_degree_answers(self):
        for n, table in some_tables(3, 8):
            for s in (*range(n + 2), 10):
                every = reference.restrictions(n)
                right = [
                    ("deep", r) for r in every
                    if r.count(2) == s and reference.whole_wave(reference.table_under(table, r)) != 0
                ]
                self.assertEqual(not right, waves.degree(table) < s)
                right = right or [("low",)]
                self.assertIn(waves.degree_answer(table, s), right)
                others = [("deep", r) for r in every] + [("low",), ("deep",), ("low", ()), "low", ("high",)]
                others = [value for value in others if value not in right]
                self.takes_just(waves.is_degree_answer, (table, s), right, others)
                for _, restriction in [value for value in right if value[0] == "deep"]:
                    self.assertGreaterEqual(reference.least_depth(reference.table_under(table, restriction)), s)

    def test_ten_letters(self):
        odd, table = reference.table_by(10, reference.sum_of), random_table(10)
        for s in range(11):
            for some in (odd, table, (1,) * 1024):
                answer = waves.degree_answer(some, s)
                self.assertIs(waves.is_degree_answer(some, s, answer), True)
                self.assertEqual(answer == ("low",), waves.degree(some) < s)
        self.assertEqual(waves.degree_answer(odd, 10), ("deep", (2,) * 10))

    def test_edges(self):
        self.assertEqual([waves.weights((1,)), waves.degree((0,)), waves.degree((1,) * 8)], [(1,), 0, 0])
        self.assertEqual([waves.degree_answer((0,), 0), waves.degree_answer((0,), 1)], [("deep", ()), ("low",)])

    def test_arguments(self):
        for table, s in ((AND, 1), ((1,), 0), ((0, 1), 10)):
            arguments = (support.table(table), support.number(s, 0, 10))
            self.checks(waves.degree_answer, *arguments)
            self.judges(waves.is_degree_answer, *arguments)
        self.checks(waves.weights, support.table(AND))
        self.checks(waves.degree, support.table(AND))


class TestDeep(support.Case):
    """[16.5]"""

    def test_keeping(self):
        for n in range(6):
            for j, m, s in itertools.product(range(n + 1), range(7), range(7)):
                told = set(range(n - j, n))
                lots = [set(letters) for letters in itertools.combinations(range(n), m)]
                wanted = len([letters for letters in lots if len(letters & told) >= s])
                self.assertEqual(waves.keeping(n, j, m, s), wanted)
        self.assertEqual(waves.keeping(10, 10, 10, 10), 1)
        self.assertEqual(waves.keeping(10, 4, 5, 0), math.comb(10, 5))

    def test_weights(self):
        for n, table in some_tables(3, 4):
            for m, s in itertools.product((*range(n + 2), 10), (*range(n + 2), 10)):
                found, many = waves.deep_weight(table, m, s), waves.deep_number(table, m, s)
                every = reference.with_free(n, m)
                depths = [reference.least_depth(reference.table_under(table, r)) for r in every]
                self.assertEqual(found, reference.deep_weight(table, m, s))
                self.assertEqual(many, len([depth for depth in depths if depth >= s]))
                self.assertLessEqual(found, 2 ** (n + m) * many)
                squares = [
                    sum(number ** 2 for letters, number in reference.waves_under(r, table).items() if len(letters) >= s)
                    for r in every
                ]
                paper = tuple(zip(depths, squares))
                self.assertEqual(waves.weight_paper(table, m, s), paper)
                wrong = [paper[::-1]] if paper[::-1] != paper else []
                wrong += [paper + ((0, 0),), list(paper), None]
                for at, (depth, square) in list(enumerate(paper))[:4]:
                    wrong += [(*paper[:at], pair, *paper[at + 1:]) for pair in ((depth + 1, square), (depth, square - 1))]
                self.takes_just(waves.is_weight_paper, (table, m, s), [], wrong)
                self.assertIs(waves.is_weight_paper(table, m, s, paper), True)

    def test_disguised_papers(self):
        for m, s in ((1, 1), (0, 0), (2, 1)):
            self.takes_just(waves.is_weight_paper, (AND, m, s), [waves.weight_paper(AND, m, s)])

    def test_the_sum(self):
        """[16.6]"""
        for n, table in some_tables(3, 20):
            whole = waves.wave(table, tuple(range(n)))
            self.assertEqual(rows.agreement(table) * 2, 2 ** n + whole)
            for m in range(n + 1):
                self.assertLessEqual(whole * whole * math.comb(n, m), waves.deep_weight(table, m, m))
        for n in range(5):
            odd = reference.table_by(n, reference.sum_of)
            for m in range(n + 1):
                self.assertEqual(waves.deep_number(odd, m, m), math.comb(n, m) * 2 ** (n - m))
                self.assertEqual(waves.deep_weight(odd, m, m), 4 ** n * math.comb(n, m))

    def test_limit(self):
        """The restrictions times 3 ** m; no limit of stage 5, and none for m above n."""
        judge = lambda *arguments: waves.is_weight_paper(*arguments, None)
        for n in range(11):
            table = random_table(n)
            for m in range(11):
                is_great = m <= n and math.comb(n, m) * 2 ** (n - m) * 3 ** m > 60000
                for function in (waves.deep_weight, waves.deep_number, waves.weight_paper, judge):
                    if is_great:
                        self.refuses(errors.TooMany, 60000, function, table, m, 10)
                        self.refuses(errors.InvalidNumber, 11, function, table, m, 11)
                    elif function != waves.deep_number or n < 10 or m in (0, 10):
                        function(table, m, 1)
        self.assertEqual(waves.deep_number(reference.table_by(10, reference.sum_of), 10, 10), 1)

    def test_arguments(self):
        for table, m, s in ((AND, 1, 1), ((1,), 0, 0), ((0, 1), 10, 0)):
            arguments = (support.table(table), support.number(m, 0, 10), support.number(s, 0, 10))
            for function in (waves.deep_weight, waves.deep_number, waves.weight_paper):
                self.checks(function, *arguments)
            self.judges(waves.is_weight_paper, *arguments)
        self.checks(waves.keeping, support.letters(4), support.number(3, 0, 4), support.number(2, 0, 10),
                    support.number(1, 0, 10))
        self.checks(waves.keeping, support.letters(0), support.number(0, 0, 0), support.number(10, 0, 10),
                    support.number(10, 0, 10))


class TestNotTrue(support.Case):
    """[16.7]"""

    def test_degrees_and_depths(self):
        """Tables of one degree with least trees of unlike depths."""
        found = {}
        for table in reference.tables(3):
            found.setdefault(waves.degree(table), set()).add(reference.least_depth(table))
        self.assertTrue(any(len(depths) > 1 for depths in found.values()))
        for table in reference.tables(3)[::7]:
            depth = reference.least_depth(table)
            self.assertEqual(waves.deep_number(table, 3, depth), 1)
            self.assertEqual(waves.deep_number(table, 3, depth + 1), 0)
            self.assertEqual(waves.weight_paper(table, 3, 0)[0][0], depth)

    def test_equal_weights(self):
        """Tables with equal weights, of which no renamed and turned one is the other."""
        sizes = {}
        for table in reference.tables(3):
            sizes.setdefault(waves.weights(table), set()).add(smallest_like(table))
        self.assertTrue(any(len(classes) > 1 for classes in sizes.values()))
        self.assertEqual(waves.weights((0, 0, 0, 1)), waves.weights((1, 1, 1, 0)))


def smallest_like(table):
    """The least of all tables to which renamed and turned letters lead."""
    found = []
    for order in itertools.permutations(range(3)):
        for bits in itertools.product((0, 1), repeat=3):
            found.append(reference.table_by(3, lambda row: reference.value(table, tuple(row[v] ^ bits[v] for v in order))))
    return min(found)


if __name__ == "__main__":
    unittest.main()
