import itertools
import random
import unittest

import reference
import support
from deepcodes import errors
from deepcodes.letters import rows

CHANCE = random.Random(11)
SMALL_TABLES = [table for n in range(4) for table in reference.tables(n)]
SOME_TABLES = SMALL_TABLES[:30] + [
    tuple(CHANCE.randrange(2) for _ in range(2 ** n)) for n in range(6) for _ in range(6)
] + [rows.sum_table(n) for n in range(7)] + [rows.not_of(rows.sum_table(n)) for n in range(7)]


def letters_of(table):
    return len(table).bit_length() - 1


class TestInputs(support.Case):
    """[0.8]: inputs, numbers, tables."""

    def test_numbers(self):
        for n in range(11):
            every = rows.inputs(n)
            self.assertEqual(every, tuple(reference.inputs(n)))
            self.assertEqual(len(every), 2 ** n)
            for number in {0, 1, 2, 5, 2 ** n // 2, 2 ** n - 1} & set(range(2 ** n)):
                row = rows.input_at(n, number)
                self.assertEqual(row, every[number])
                self.assertEqual(sum(bit * 2 ** at for at, bit in enumerate(row)), number)
                self.assertEqual(rows.number_of(n, row), number)

    def test_is_input(self):
        wrong = [(), (0,), (0, 1, 0), (0, 2), (0, -1), (None, 0), "01"]
        self.takes_just(rows.is_input, (2,), reference.inputs(2), wrong)
        self.takes_just(rows.is_input, (0,), [()], [(0,), None, [], 0, ""])
        self.takes_just(rows.is_input, (10,), [(1,) * 10], [(1,) * 9, (1,) * 11])

    def test_is_table(self):
        self.takes_just(rows.is_table, (1,), reference.tables(1), [(), (0,), (0, 1, 0), (0, 1, 0, 1), (0, 2), (0, -1)])
        self.takes_just(rows.is_table, (0,), [(0,), (1,)], [(), (2,), (0, 1), 0])
        self.assertIs(rows.is_table(10, (1,) * 1024), True)
        self.assertIs(rows.is_table(10, (1,) * 1023), False)
        self.assertIs(rows.is_table(10, (1,) * 1023 + (True,)), False)

    def test_values(self):
        for table in SOME_TABLES:
            n = letters_of(table)
            self.assertEqual([rows.value_at(table, row) for row in reference.inputs(n)], list(table))
            self.assertEqual(rows.yes_inputs(table), tuple(at for at in range(2 ** n) if table[at]))

    def test_arguments(self):
        self.checks(rows.inputs, support.letters(3))
        self.checks(rows.input_at, support.letters(3), support.number(7, 0, 7))
        self.checks(rows.input_at, support.letters(0), support.number(0, 0, 0))
        self.checks(rows.input_at, support.letters(10), support.number(1023, 0, 1023))
        self.checks(rows.number_of, support.letters(3), support.row((1, 0, 1)))
        self.checks(rows.number_of, support.letters(0), support.row(()))
        self.checks(rows.value_at, support.table((0, 1, 1, 0)), support.row((1, 0)))
        self.checks(rows.yes_inputs, support.table((0, 1, 1, 0)))
        self.judges(rows.is_input, support.letters(3))
        self.judges(rows.is_table, support.letters(3))


class TestHalves(support.Case):
    """[1.1]"""

    def test_halves(self):
        for table in SOME_TABLES:
            n = letters_of(table)
            for letter in range(n):
                for bit in (0, 1):
                    wanted = tuple(v for row, v in zip(reference.inputs(n), table) if row[letter] == bit)
                    self.assertEqual(rows.half(table, letter, bit), wanted)
                self.assertEqual(rows.joined(rows.half(table, letter, 0), rows.half(table, letter, 1), letter), table)

    def test_joined(self):
        for low, high in itertools.product(reference.tables(2), repeat=2):
            for letter in range(3):
                table = rows.joined(low, high, letter)
                self.assertEqual((rows.half(table, letter, 0), rows.half(table, letter, 1)), (low, high))
        self.assertEqual(rows.joined((0,), (1,), 0), (0, 1))
        self.assertEqual(rows.joined((0,) * 512, (1,) * 512, 9), (0,) * 512 + (1,) * 512)

    def test_greater_letters_count_one_less(self):
        table = reference.table_by(3, lambda row: row[2])
        self.assertEqual(rows.half(table, 0, 1), reference.table_by(2, lambda row: row[1]))
        self.assertEqual(rows.half(table, 1, 0), reference.table_by(2, lambda row: row[1]))

    def test_arguments(self):
        self.checks(rows.half, support.table((0, 1, 1, 0)), support.number(1, 0, 1), support.number(0, 0, 1))
        self.refuses(errors.InvalidNumber, 0, rows.half, (1,), 0, 0)
        self.checks(rows.joined, support.table((0, 1), 9), support.table_like((1, 1)), support.number(1, 0, 1))
        self.checks(rows.joined, support.table((0,) * 512, 9), support.table_like((1,) * 512), support.number(9, 0, 9))
        self.checks(rows.joined, support.table((0,), 9), support.table_like((1,)), support.number(0, 0, 0))


class TestOtherTables(support.Case):
    """[1.2] and the tables of two."""

    def test_not_and_dual(self):
        for table in SOME_TABLES:
            n = letters_of(table)
            self.assertEqual(rows.not_of(table), reference.table_by(n, lambda row: 1 - reference.value(table, row)))
            opposite = reference.table_by(n, lambda row: 1 - reference.value(table, [1 - bit for bit in row]))
            self.assertEqual(rows.dual_of(table), opposite)
            self.assertEqual(rows.not_of(rows.not_of(table)), table)
            self.assertEqual(rows.dual_of(rows.dual_of(table)), table)

    def test_of_two(self):
        for n in range(3):
            for table, other in itertools.product(reference.tables(n), repeat=2):
                pairs = list(zip(table, other))
                self.assertEqual(rows.both(table, other), tuple(min(pair) for pair in pairs))
                self.assertEqual(rows.either(table, other), tuple(max(pair) for pair in pairs))
                self.assertEqual(rows.sum_of(table, other), tuple(sum(pair) % 2 for pair in pairs))

    def test_results_are_numbers(self):
        for result in (rows.both((0, 1), (1, 1)), rows.either((0, 1), (1, 1)), rows.sum_of((0, 1), (1, 1))):
            self.assertEqual([type(value) for value in result], [int, int])

    def test_unlike_input(self):
        for n in range(3):
            for table, other in itertools.product(reference.tables(n), repeat=2):
                rows_of_n = reference.inputs(n)
                unlike = [row for row in rows_of_n if reference.value(table, row) != reference.value(other, row)]
                self.assertEqual(rows.unlike_input(table, other), unlike[0] if unlike else None)

    def test_what_is_not_true(self):
        """[1.5]: all letters of a table can matter though its dual is its not."""
        self.assertEqual(rows.dual_of((0, 1, 1, 0)), rows.not_of((0, 1, 1, 0)))
        self.assertEqual(rows.matters((0, 1, 1, 0)), (0, 1))

    def test_arguments(self):
        for function in (rows.both, rows.either, rows.sum_of, rows.unlike_input):
            self.checks(function, support.table((0, 1, 1, 0)), support.table_like((0, 0, 0, 1)))
            self.checks(function, support.table((0,)), support.table_like((1,)))
        for function in (rows.not_of, rows.dual_of, rows.matters, rows.narrowed, rows.agreement, rows.sum_answer):
            self.checks(function, support.table((0, 1, 1, 0)))


class TestMatters(support.Case):
    """[1.3] and new names."""

    def test_matters(self):
        for table in SOME_TABLES:
            n = letters_of(table)
            wanted = [v for v in range(n) if rows.half(table, v, 0) != rows.half(table, v, 1)]
            self.assertEqual(rows.matters(table), tuple(wanted))
            narrow = rows.narrowed(table)
            self.assertEqual(len(narrow), 2 ** len(wanted))
            self.assertEqual(rows.matters(narrow), tuple(range(len(wanted))))
            self.assertEqual(rows.widened(n, narrow, rows.matters(table)), table)

    def test_widened(self):
        for n in range(5):
            for size in range(min(n, 2) + 1):
                for letters in itertools.combinations(range(n), size):
                    for table in reference.tables(size):
                        wanted = reference.table_by(
                            n, lambda row: reference.value(table, [row[letter] for letter in letters]))
                        self.assertEqual(rows.widened(n, table, letters), wanted)
        self.assertEqual(rows.widened(10, (0, 1), (9,)), (0,) * 512 + (1,) * 512)

    def test_renamed(self):
        for n in range(4):
            for order in itertools.permutations(range(n)):
                for table in reference.tables(n)[:40]:
                    new = rows.renamed(table, order)
                    for row in reference.inputs(n):
                        other = [None] * n
                        for letter, bit in enumerate(row):
                            other[order[letter]] = bit
                        self.assertEqual(reference.value(new, other), reference.value(table, row))

    def test_arguments(self):
        letters = support.Argument((0, 2), errors.InvalidOperation, support.NO_TUPLES + [
            (), (0,), (2, 0), (0, 0), (0, 3), (-1, 0), (0, 1, 2), [0, 2], (0, True), (False, 2), (0, None),
            (0, 10 ** 10),
        ])
        self.checks(rows.widened, support.letters(3), support.table((0, 1, 1, 0)), letters)
        self.refuses(errors.InvalidOperation, None, rows.widened, 1, (0, 1, 1, 0), (0, 1))
        self.refuses(errors.InvalidOperation, None, rows.widened, 1, (0, 1, 1, 0), (0,))
        self.refuses(errors.InvalidTable, None, rows.widened, 10, (0,) * 2048, tuple(range(10)))
        self.assertEqual(rows.widened(2, (1,), ()), (1, 1, 1, 1))
        order = support.Argument((1, 0), errors.InvalidOperation, support.NO_TUPLES + [
            (), (0,), (0, 0), (1, 1), (0, 2), (-1, 0), (0, 1, 2), [1, 0], (True, 0), (1, False), (None, 0), ((), 0),
            (10 ** 10, 0), ("a", "b"),
        ])
        self.checks(rows.renamed, support.table((0, 1, 1, 0)), order)
        self.assertEqual(rows.renamed((1,), ()), (1,))


class TestSum(support.Case):
    """[1.4]"""

    def test_sum_table(self):
        for n in range(11):
            self.assertEqual(rows.sum_table(n), reference.table_by(n, lambda row: sum(row) % 2))

    def test_agreement(self):
        for table in SOME_TABLES:
            n = letters_of(table)
            wanted = sum(reference.value(table, row) == sum(row) % 2 for row in reference.inputs(n))
            self.assertEqual(rows.agreement(table), wanted)
            self.assertIs(type(rows.agreement(table)), int)
            if len(rows.matters(table)) < n:
                self.assertEqual(wanted, 2 ** (n - 1))

    def test_answers(self):
        for table in SMALL_TABLES + SOME_TABLES:
            n = letters_of(table)
            answer = rows.sum_answer(table)
            self.assertIs(rows.is_sum_answer(table, answer), True)
            odd = rows.sum_table(n)
            right = {table == odd: [("sum",)], table == rows.not_of(odd): [("not sum",)]}.get(True, [])
            every = [("kept", row, letter) for row in reference.inputs(n) for letter in range(n)]
            for value in every:
                _, row, letter = value
                if reference.value(table, row) == reference.value(table, reference.turned(row, letter)):
                    right.append(value)
            self.assertTrue(right)
            wrong = [value for value in [("sum",), ("not sum",)] + every if value not in right]
            if len(table) <= 8:
                self.takes_just(rows.is_sum_answer, (table,), right, wrong)
            self.assertEqual(answer[0] == "kept", right[0][0] == "kept")

    def test_wrong_values(self):
        values = [("kept", (0, 0), 2), ("kept", (0, 0), -1), ("kept", (0,), 0), ("kept", (0, 0, 0), 0), ("kept", 0, 0)]
        values += [("kept", (0, 0)), ("kept", (0, 0), 1, 1), ("keep", (0, 0), 1), ["kept", (0, 0), 1], ("sum", ())]
        self.takes_just(rows.is_sum_answer, ((0, 0, 0, 1),), [("kept", (0, 0), 1), ("kept", (0, 1), 1)], values)

    def test_arguments(self):
        self.checks(rows.sum_table, support.letters(3))
        self.judges(rows.is_sum_answer, support.table((0, 0, 0, 1)))
        self.judges(rows.is_sum_answer, support.table((0,)))


if __name__ == "__main__":
    unittest.main()
