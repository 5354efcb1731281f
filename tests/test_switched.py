import itertools
import random
import unittest

import reference
import support
from deepcodes import errors
from deepcodes.canon import counts, switched
from deepcodes.letters import terms

CHANCE = random.Random(909)
ONE = (((0, 1), (1, 1)), ((1, 0), (2, 1)))
PAIR = (((0, 1), (1, 0)), ((1, 1),), ((0, 1), (1, 0), (2, 1)))
DEEP = (((0, 1), (1, 1)), ((1, 1), (2, 1), (3, 1)), ((1, 0), (4, 1), (5, 1)))


def cases(most=3, many=10):
    for n in range(most + 1):
        for formula in reference.some_formulas(n, many, 31):
            for restriction in reference.restrictions(n):
                yield n, formula, restriction


def is_alike(restriction, formula, clauses, some):
    """Whether a coformula and a formula have the values of the formula at the inputs that fit."""
    return all(
        reference.coformula_value(clauses, row) == reference.formula_value(some, row)
        == reference.formula_value(formula, row) for row in reference.fitting(restriction)
    )


def small_formulas(n, most):
    every = reference.terms(n)
    return [some for size in range(most + 1) for some in itertools.combinations(every, size)]


class TestColefts(support.Case):
    """[9.1]"""

    def test_colefts(self):
        for n, formula, restriction in cases():
            found = switched.colefts(restriction, formula)
            kept = [any(restriction[v] == b for v, b in clause) for clause in formula]
            wanted = [reference.left(restriction, clause) for clause, is_kept in zip(formula, kept) if not is_kept]
            self.assertEqual(found, tuple(wanted))
            for row in reference.fitting(restriction):
                self.assertEqual(reference.coformula_value(found, row), reference.coformula_value(formula, row))
            # With all bits exchanged a coformula is a formula with the other values.
            turned = terms.turned(n, formula)
            lefts = terms.lefts(restriction, turned)
            self.assertEqual(terms.turned(n, found), lefts)

    def test_edges(self):
        self.assertEqual(switched.colefts((), ()), ())
        self.assertEqual(switched.colefts((), ((),)), ((),))
        self.assertEqual(switched.colefts((0, 2), (((0, 1),), ((0, 0), (1, 1)), ((1, 1),), ((0, 1),))),
            ((), ((1, 1),), ()))

    def test_arguments(self):
        self.checks(switched.colefts, support.any_restriction((2, 0, 2)), support.formula(3, PAIR))
        self.checks(switched.colefts, support.any_restriction(()), support.formula(0, ((),)))


class TestSwitched(support.Case):
    """[9.2]"""

    def test_answers(self):
        for n, formula, restriction in cases():
            for s in (*range(n + 2), 10):
                answer = switched.switched(restriction, formula, s)
                code = reference.code_for(restriction, formula, s)
                judge = (switched.is_switched, (restriction, formula, s))
                if code is not None:
                    self.assertEqual(answer, ("code", code))
                    self.takes_just(*judge, [answer], [("code", (code[1], code)), ("code", (*code, ()))])
                    continue
                word, clauses, some = answer
                self.assertEqual(word, "both")
                self.assertLess(max(reference.width(clauses), reference.width(some)), s)
                self.assertTrue(all(restriction[v] == 2 for part in (*clauses, *some) for v, _ in part))
                self.assertTrue(is_alike(restriction, formula, clauses, some))
                swapped = [] if is_alike(restriction, formula, some, clauses) else [("both", some, clauses)]
                self.takes_just(*judge, [answer], swapped)
                self.assertIs(judge[0](*judge[1], ("code", (restriction, ()))), False)

    def test_all_small_ones(self):
        """Any right pair is taken, also where there is a code, and no wrong one."""
        for n in (0, 1, 2):
            every = small_formulas(n, 2)
            for formula in [(), ((),), (((0, 1),), ((0, 0),)), (((0, 1), (1, 0)),), (((0, 1),), ((1, 1),))]:
                if not terms.is_formula(n, formula):
                    continue
                for restriction in reference.restrictions(n):
                    for s in range(n + 2):
                        self.check_small(restriction, formula, s, CHANCE.sample(every, min(len(every), 16)))

    def check_small(self, restriction, formula, s, every):
        free = reference.free(restriction)
        for clauses, some in itertools.product(every, repeat=2):
            wanted = is_alike(restriction, formula, clauses, some)
            wanted = wanted and max(reference.width(clauses), reference.width(some)) < s
            wanted = wanted and all(v in free for part in (*clauses, *some) for v, _ in part)
            self.assertIs(switched.is_switched(restriction, formula, s, ("both", clauses, some)), wanted)

    def test_not_though_there_is_a_code(self):
        clauses = (((0, 1), (1, 0)), ((1, 1), (2, 1)))
        right = [("both", clauses, ONE), switched.switched((2, 2, 2), ONE, 3), ("both", clauses * 512, ONE * 512)]
        wrong = [("both", clauses * 513, ONE), ("both", clauses, ONE * 513), ("both", ONE, clauses), ("both", clauses)]
        wrong += [("both", clauses, ONE, ()), ("both", clauses[:1], ONE), ("both", clauses, ONE[:1]),
            ("codes", clauses, ONE)]
        wrong += [("both", clauses, ONE[:1] + (((1, 0), (2, 1), (3, 1)),)), ("both", clauses, None),
            ("both", None, ONE)]
        self.takes_just(switched.is_switched, ((2, 2, 2), ONE, 3), right[:2], wrong)
        self.assertIs(switched.is_switched((2, 2, 2), ONE, 3, right[2]), True)
        self.takes_just(switched.is_switched, ((2, 2, 2), ONE, 2), [switched.switched((2, 2, 2), ONE, 2)], right)

    def test_told_letters_are_barred(self):
        one, told = (((1, 1),),), (((0, 0), (1, 1)),)
        formula = (((1, 1),),)
        wrong = [("both", told, one), ("both", one, told), ("both", (*one, ((0, 1), (1, 1))), one)]
        self.takes_just(switched.is_switched, ((0, 2), formula, 3), [("both", one, one)], wrong)

    def test_great_ones(self):
        for size in (3, 5, 9):
            formula = tuple(reference.random_term(CHANCE, 10, size) for _ in range(64))
            for restriction in ((2,) * 10, (0, 1) + (2,) * 8):
                for s in (9, 10):
                    answer = switched.switched(restriction, formula, s)
                    self.assertIs(switched.is_switched(restriction, formula, s, answer), True)

    def test_arguments(self):
        for s in (0, 1, 2, 10):
            arguments = (support.any_restriction((2, 0, 2)), support.formula(3, PAIR), support.number(s, 0, 10))
            self.checks(switched.switched, *arguments)
            self.judges(switched.is_switched, *arguments)
        self.judges(switched.is_switched, support.any_restriction(()), support.formula(0, ()), support.number(1, 0, 10))


class TestWidths(support.Case):
    """[9.3]"""

    def test_least_widths(self):
        for n in range(4):
            for table in reference.tables(n) if n < 3 else CHANCE.sample(reference.tables(3), 60):
                wanted = (reference.least_width(table, 1), reference.least_width(table, 0))
                self.assertEqual(switched.least_widths(table), wanted)

    def test_width_answers(self):
        for n in range(4):
            for table in reference.tables(n) if n < 3 else CHANCE.sample(reference.tables(3), 40):
                for width, bit in itertools.product((*range(n + 2), 10), (0, 1)):
                    self.check(n, table, width, bit)

    def check(self, n, table, width, bit):
        rows = reference.inputs(n)
        without = [
            row for row in rows
            if reference.value(table, row) == bit and reference.certificate_size(table, row) > width
        ]
        right = [("input", row) for row in without]
        answer = switched.width_answer(table, width, bit)
        judge = (switched.is_width_answer, (table, width, bit))
        wrong = [("input", row) for row in rows if row not in without]
        if without:
            self.assertIn(answer, right)
            self.takes_just(*judge, right, wrong + [("terms", ()), ("terms", ((),))])
            return
        word, some = answer
        self.assertEqual(word, "terms")
        self.assertLessEqual(reference.width(some), width)
        self.assertEqual((reference.formula_table if bit else reference.coformula_table)(n, some), table)
        self.takes_just(*judge, [answer], wrong)

    def test_any_right_formula(self):
        for n in (0, 1, 2):
            every = small_formulas(n, 3 if n < 2 else 2)
            for table in reference.tables(n):
                for width, bit in itertools.product(range(n + 2), (0, 1)):
                    read = reference.formula_table if bit else reference.coformula_table
                    for some in every:
                        wanted = reference.width(some) <= width and read(n, some) == table
                        self.assertIs(switched.is_width_answer(table, width, bit, ("terms", some)), wanted)

    def test_how_long(self):
        table = terms.formula_table(2, (((0, 1),),))
        for many, wanted in ((512, True), (1024, True), (1025, False)):
            long = tuple(((0, 1),) for _ in range(many))
            self.assertIs(switched.is_width_answer(table, 1, 1, ("terms", long)), wanted)
            self.assertIs(switched.is_width_answer(table, 1, 0, ("terms", long)), wanted)

    def test_ten_letters(self):
        """No limit of stage 5 here."""
        odd = tuple(bin(number).count("1") % 2 for number in range(1024))
        self.assertEqual(switched.least_widths(odd), (10, 10))
        for bit in (0, 1):
            self.assertEqual(switched.width_answer(odd, 9, bit)[0], "input")
            word, some = switched.width_answer(odd, 10, bit)
            self.assertEqual((word, len(some)), ("terms", 512))
            self.assertIs(switched.is_width_answer(odd, 10, bit, (word, some)), True)
            self.assertIs(switched.is_width_answer(odd, 10, 1 - bit, (word, some)), False)
        for formula in (tuple(reference.random_term(CHANCE, 10, 4) for _ in range(20)), ((),), ()):
            table = terms.formula_table(10, formula)
            for width, bit in itertools.product(range(11), (0, 1)):
                answer = switched.width_answer(table, width, bit)
                self.assertIs(switched.is_width_answer(table, width, bit, answer), True)
                self.assertEqual(answer[0] == "terms", width >= switched.least_widths(table)[1 - bit])

    def test_constants(self):
        self.assertEqual(switched.MOST_CLAUSES, 1024)
        for n in (0, 1, 3, 10):
            for bit in (0, 1):
                self.assertEqual(switched.least_widths((bit,) * 2 ** n), (0, 0))
                self.assertEqual(switched.width_answer((bit,) * 2 ** n, 0, 1), ("terms", ((),) * bit))
                self.assertEqual(switched.width_answer((bit,) * 2 ** n, 0, 0), ("terms", ((),) * (1 - bit)))

    def test_arguments(self):
        self.checks(switched.least_widths, support.table((0, 1, 1, 0)))
        for width, bit in ((1, 1), (2, 0), (0, 1), (10, 0)):
            arguments = (support.table((0, 1, 1, 0)), support.number(width, 0, 10), support.number(bit, 0, 1))
            self.checks(switched.width_answer, *arguments)
            self.judges(switched.is_width_answer, *arguments)
        self.judges(switched.is_width_answer, support.table((1,)), support.number(0, 0, 10), support.number(1, 0, 1))


class TestGrades(support.Case):
    """[9.4]"""

    def test_grades(self):
        for n, formula, restriction in cases(3, 8):
            table = reference.table_under(reference.formula_table(n, formula), restriction)
            first, second, third, fourth = switched.grades(restriction, formula)
            self.assertEqual(first, reference.least_width(table, 1))
            self.assertEqual(second, reference.least_width(table, 0))
            self.assertEqual(third, reference.least_depth(table))
            self.assertEqual(fourth, reference.depth(reference.canonical(restriction, formula)))
            self.assertLessEqual(max(first, second), third)
            self.assertLessEqual(third, first * second)
            self.assertLessEqual(third, fourth)
            self.assertLessEqual(first, reference.width(formula))

    def test_ten_letters(self):
        for size in (2, 5):
            formula = tuple(reference.random_term(CHANCE, 10, size) for _ in range(12))
            first, second, third, fourth = switched.grades((2,) * 10, formula)
            self.assertLessEqual(max(first, second), third)
            self.assertLessEqual(third, min(first * second, fourth))
        self.assertEqual(switched.grades((2,) * 10, ()), (0, 0, 0, 0))

    def test_arguments(self):
        self.checks(switched.grades, support.any_restriction((2, 0, 2)), support.formula(3, PAIR))
        self.checks(switched.grades, support.any_restriction(()), support.formula(0, ((),)))


class TestStiff(support.Case):
    """[9.5]"""

    def test_stiff(self):
        for n in range(4):
            for formula in reference.some_formulas(n, 6, 32):
                table = reference.formula_table(n, formula)
                widths = {
                    restriction: reference.least_width(reference.table_under(table, restriction), 0)
                    for restriction in reference.restrictions(n)
                }
                for free, s in itertools.product(range(n + 1), (*range(n + 2), 10)):
                    wanted = [r for r in widths if r.count(2) == free and widths[r] >= s]
                    self.assertEqual(switched.stiff_number(n, formula, free, s), len(wanted))
                    deep = counts.deep_restrictions(n, formula, free, s)
                    self.assertTrue(all(restriction in deep for restriction in wanted))
                    _, rows, behind, _ = counts.count_paper(n, formula, free, s)
                    self.assertLessEqual(len(wanted), rows * behind)

    def test_edges(self):
        for formula in ((), ((),)):
            self.assertEqual(switched.stiff_number(0, formula, 0, 0), 1)
            self.assertEqual(switched.stiff_number(0, formula, 0, 1), 0)
            self.assertEqual(switched.stiff_number(3, formula, 2, 0), 6)
            self.assertEqual(switched.stiff_number(3, formula, 2, 1), 0)
        self.assertEqual(switched.stiff_number(3, ONE, 2, 3), 0)

    def test_arguments(self):
        self.checks(switched.stiff_number, support.letters(3), support.formula(3, PAIR), support.number(2, 0, 3),
                    support.number(1, 0, 10))
        self.checks(switched.stiff_number, support.letters(0), support.formula(0, ()), support.number(0, 0, 0),
                    support.number(0, 0, 10))

    def test_work_limit(self):
        many = tuple(reference.random_term(CHANCE, 10, 3) for _ in range(64))
        for formula, free in ((many[:4], 3), (many[:63], 7), (many[:8], 5), (many, 0)):
            self.refuses(errors.TooMany, 60000, switched.stiff_number, 10, formula, free, 2)
            self.refuses(errors.InvalidNumber, 11, switched.stiff_number, 10, formula, free, 11)
        for formula, free in (((), 3), (many[:3], 3), (many[:62], 7), (many, 10)):
            switched.stiff_number(10, formula, free, 2)


class TestNotTrue(support.Case):
    """[9.6]"""

    def test_a_code_and_yet_narrow(self):
        self.assertEqual(switched.switched((2, 2, 2), ONE, 3)[0], "code")
        self.assertLess(switched.grades((2, 2, 2), ONE)[1], 3)

    def test_third_grade(self):
        self.assertEqual(switched.grades((2,) * 6, DEEP)[:3], (3, 3, 4))

    def test_fewest_terms(self):
        some = (((0, 1),), ((0, 0), (1, 1)))
        table = terms.formula_table(2, some)
        self.assertFalse([term for term in reference.terms(2) if reference.formula_table(2, (term,)) == table])
        self.assertEqual(reference.width(some), 2)
        self.assertEqual(switched.least_widths(table), (1, 2))


if __name__ == "__main__":
    unittest.main()
