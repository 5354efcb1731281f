import itertools
import random
import unittest

import reference
import support
from deepcodes import errors
from deepcodes.letters import rows
from deepcodes.trees import least

CHANCE = random.Random(55)
MOST = (0, 0, 0, 1, 0, 1, 1, 1)
SMALL_TABLES = [table for n in range(3) for table in reference.tables(n)]
# A letter of these leaves a low tree for one answer, and a tree as deep as the whole one for the other.
UNEVEN = [(0, 1, 1, 1, 0, 0, 1, 0, 0, 1, 1, 1, 0, 1, 0, 0), (0, 0, 1, 0, 1, 1, 1, 0, 0, 1, 0, 0, 1, 1, 1, 0)]
SOME_TABLES = UNEVEN + SMALL_TABLES + reference.tables(3)[::5] + [MOST, rows.sum_table(3), rows.sum_table(4)]
RANDOM_TABLES = [tuple(CHANCE.randrange(2) for _ in range(16)) for _ in range(12)]


def letters_of(table):
    return len(table).bit_length() - 1


def is_plan(table, depth, plan):
    """[5.2], word for word."""
    n = letters_of(table)
    if depth > n or (2,) * n not in plan:
        return False
    for restriction, answers in plan.items():
        if restriction not in reference.restrictions(n):
            return False
        told = n - len(reference.free(restriction))
        if told > depth:
            return False
        if told == depth:
            if answers != () or len(set(reference.table_under(table, restriction))) < 2:
                return False
            continue
        if not isinstance(answers, tuple) or len(answers) != n:
            return False
        for letter in range(n):
            if restriction[letter] != 2:
                if answers[letter] != 2:
                    return False
            elif answers[letter] not in (0, 1) or reference.told(restriction, [(letter, answers[letter])]) not in plan:
                return False
    return True


class TestDepth(support.Case):
    """[5.1]"""

    def test_least_depth(self):
        for table in SOME_TABLES + RANDOM_TABLES:
            depth = least.least_depth(table)
            self.assertEqual(depth, reference.least_depth(table))
            self.assertEqual(least.least_depth(rows.not_of(table)), depth)
            for restriction in reference.restrictions(letters_of(table)):
                self.assertLessEqual(reference.least_depth(reference.table_under(table, restriction)), depth)

    def test_least_depth_by_all_trees(self):
        for n in range(3):
            every = reference.trees(list(range(n)), n)
            for table in reference.tables(n):
                fits = [t for t in every if reference.table_by(n, lambda row: reference.tree_value(t, row)) == table]
                self.assertEqual(least.least_depth(table), min(reference.depth(tree) for tree in fits))

    def test_the_sum(self):
        for n in range(9):
            self.assertEqual(least.least_depth(rows.sum_table(n)), n)

    def test_edges(self):
        self.assertEqual([least.least_depth((0,)), least.least_depth((1,)), least.least_depth((1,) * 256)], [0, 0, 0])
        self.assertEqual(least.least_depth((0,) * 255 + (1,)), 8)

    def test_arguments(self):
        for function in (least.least_depth, least.certificate_sizes, least.told_tree):
            self.checks(function, support.table((0, 1, 1, 0)))
            self.refuses(errors.TooMany, 256, function, (0,) * 512)
            self.refuses(errors.TooMany, 256, function, (0, 1) * 512)


class TestAnswers(support.Case):
    """[5.2]"""

    def test_answers(self):
        for table in SOME_TABLES + RANDOM_TABLES:
            n = letters_of(table)
            for depth in (*range(n + 2), 10):
                answer = least.least_answer(table, depth)
                self.assertIs(least.is_least_answer(table, depth, answer), True)
                self.assertEqual(answer[0], "tree" if reference.least_depth(table) <= depth else "plan")
                if answer[0] == "tree":
                    self.check_tree(table, depth, answer[1])
                else:
                    self.check_plan(table, depth, answer[1])

    def check_tree(self, table, depth, tree):
        n = letters_of(table)
        self.assertLessEqual(reference.depth(tree), depth)
        self.assertEqual(reference.table_by(n, lambda row: reference.tree_value(tree, row)), table)

    def check_plan(self, table, depth, plan):
        self.assertTrue(is_plan(table, depth, plan))
        self.assertIs(least.is_plan(table, depth, plan), True)
        numbers = [sum(member * 3 ** at for at, member in enumerate(key)) for key in plan]
        self.assertEqual(numbers, sorted(numbers))

    def test_all_trees_are_judged(self):
        for n in range(3):
            every = reference.trees(list(range(n)), n)
            for table in reference.tables(n):
                for depth in range(n + 2):
                    right = [
                        ("tree", tree) for tree in every if reference.depth(tree) <= depth
                        and reference.table_by(n, lambda row: reference.tree_value(tree, row)) == table
                    ]
                    wrong = [("tree", tree) for tree in every if ("tree", tree) not in right]
                    self.takes_just(least.is_least_answer, (table, depth), right, wrong)
                    self.assertEqual(bool(right), least.least_answer(table, depth)[0] == "tree")

    def test_all_plans_are_judged(self):
        for n in range(3):
            keys = reference.restrictions(n)
            answers = [()] + list(itertools.product((0, 1, 2), repeat=n)) if n else [()]
            for table in reference.tables(n):
                for depth in range(n + 2):
                    for size in range(4 if n < 2 else 3):
                        for chosen in itertools.combinations(keys, size):
                            for told in itertools.product(answers, repeat=size):
                                plan = dict(zip(chosen, told))
                                wanted = is_plan(table, depth, plan)
                                if wanted or CHANCE.random() < 0.02:
                                    self.assertIs(least.is_plan(table, depth, plan), wanted)
                                    self.assertIs(least.is_least_answer(table, depth, ("plan", plan)), wanted)

    def test_changed_plans(self):
        for table in [MOST, rows.sum_table(3), rows.sum_table(4)] + RANDOM_TABLES:
            n = letters_of(table)
            for depth in range(least.least_depth(table)):
                plan = least.least_answer(table, depth)[1]
                backwards = {key: plan[key] for key in reversed(list(plan))}
                self.takes_just(least.is_plan, (table, depth), [plan, backwards] if n < 4 else [])
                self.assertIs(least.is_least_answer(table, depth, ("plan", backwards)), True)
                for other in self.changed(n, plan, depth):
                    wanted = is_plan(table, depth, other)
                    self.assertIs(least.is_plan(table, depth, other), wanted, (table, depth, other))
                    self.assertIs(least.is_least_answer(table, depth, ("plan", other)), wanted)
                for beside in (depth - 1, depth + 1, n + 1):
                    if beside >= 0:
                        self.assertIs(least.is_plan(table, beside, plan), is_plan(table, beside, plan))

    def changed(self, n, plan, depth):
        for key in CHANCE.sample(list(plan), min(6, len(plan))):
            yield {other: plan[other] for other in plan if other != key}
            for at, member in enumerate(plan[key]):
                yield {**plan, key: plan[key][:at] + ({0: 1, 1: 0, 2: 0}[member],) + plan[key][at + 1:]}
                yield {**plan, key: plan[key][:at] + (2 if member < 2 else 1,) + plan[key][at + 1:]}
                yield {**plan, key: plan[key][:at] + (10 ** 10,) + plan[key][at + 1:]}
                yield {**plan, key: plan[key][:at] + (3,) + plan[key][at + 1:]}
            yield {**plan, key: plan[key] + (0,)}
            yield {**plan, key: plan[key][1:]}
            yield {**plan, key: ()}
        for key in CHANCE.sample(reference.restrictions(n), 6):
            yield {**plan, key: ()}
            yield {**plan, key: tuple(0 if member == 2 else 2 for member in key)}
        for key in ((2,) * (n + 1), (2,) * (n - 1), "x", None, 5, (3,) * n, (10 ** 20,) * n):
            yield {**plan, key: ()}

    def test_more_letters_told_than_there_are(self):
        """A plan is for a depth up to n, though beyond n nothing else would be wrong with this dict."""
        every = {
            restriction: tuple(0 if member == 2 else 2 for member in restriction)
            for restriction in reference.restrictions(2)
        }
        for depth in (2, 3, 10):
            self.assertIs(least.is_plan((0, 1, 1, 0), depth, every), False)
            self.assertIs(least.is_least_answer((0, 1, 1, 0), depth, ("plan", every)), False)
        self.assertIs(least.is_plan((0,), 0, {(): ()}), False)
        self.assertIs(least.is_plan((0,), 1, {(): ()}), False)

    def test_further_keys(self):
        plan = {(2, 2): (0, 1), (0, 2): (), (2, 1): ()}
        self.takes_just(least.is_plan, ((0, 1, 1, 0), 1), [plan, {**plan, (1, 2): ()}, {**plan, (2, 0): ()}], [
            {**plan, (0, 0): ()}, {**plan, (1, 1): (2, 2)}, {**plan, (0, 3): ()}, {**plan, (1, 2): None},
            {**plan, (1, 2): []}, {(0, 2): (), (2, 1): ()}, {**plan, (0, 2): (2, 2)}, {},
            {(2, 2): (0, 1), (False, 2): (), (2, True): ()}, {(2, 2): (False, True), (0, 2): (), (2, 1): ()},
        ])
        for wrong in (None, (), [], list(plan.items()), tuple(plan.items())):
            self.assertIs(least.is_plan((0, 1, 1, 0), 1, wrong), False)

    def test_no_letter_told(self):
        wrong = [{}, {(2,): (0,)}, {(2,): (2,)}, {(2,): (), (0,): ()}]
        self.takes_just(least.is_plan, ((0, 1), 0), [{(2,): ()}], wrong)
        self.takes_just(least.is_plan, ((1, 1), 0), [], [{(2,): ()}])

    def test_greatest_tables(self):
        table = tuple(CHANCE.randrange(2) for _ in range(256))
        depth = least.least_depth(table)
        for wanted in (depth - 1, depth):
            answer = least.least_answer(table, wanted)
            self.assertEqual(answer[0], "plan" if wanted < depth else "tree")
            self.assertIs(least.is_least_answer(table, wanted, answer), True)
        plan = least.least_answer(rows.sum_table(8), 7)
        self.assertIs(least.is_least_answer(rows.sum_table(8), 7, plan), True)
        self.assertIs(least.is_least_answer(rows.sum_table(8), 8, plan), False)

    def test_arguments(self):
        arguments = (support.table((0, 1, 1, 0)), support.number(1, 0, 10))
        self.checks(least.least_answer, *arguments)
        self.judges(least.is_least_answer, *arguments)
        self.judges(least.is_plan, *arguments)
        self.judges(least.is_plan, support.table((0, 1)), support.number(0, 0, 10))
        for function in (least.least_answer, self.judge(least.is_least_answer), self.judge(least.is_plan)):
            self.refuses(errors.TooMany, 256, function, (0,) * 512, 3)
            self.refuses(errors.TooMany, 256, function, (0,) * 1024, 10)
            self.refuses(errors.InvalidNumber, 11, function, (0,) * 512, 11)
            self.refuses(errors.InvalidTable, None, function, (0,) * 511, 11)

    def judge(self, function):
        return lambda *arguments: function(*arguments, None)


class TestCertificates(support.Case):
    """[5.3]"""

    def right_ones(self, table, row):
        n = letters_of(table)
        found = []
        for size in range(n + 1):
            for letters in itertools.combinations(range(n), size):
                alike = [r for r in reference.inputs(n) if all(r[v] == row[v] for v in letters)]
                if {reference.value(table, r) for r in alike} == {reference.value(table, row)}:
                    found.append(letters)
        return found

    def test_certificates(self):
        for table in SOME_TABLES + RANDOM_TABLES[:4]:
            n = letters_of(table)
            sizes = [0, 0]
            every = [letters for size in range(n + 1) for letters in itertools.permutations(range(n), size)]
            for row in reference.inputs(n):
                right = self.right_ones(table, row)
                self.assertEqual(least.certificate(table, row), right[0])
                wrong = [letters for letters in every if letters not in right]
                self.takes_just(least.is_certificate, (table, row), right, wrong)
                value = reference.value(table, row)
                sizes[value] = max(sizes[value], len(right[0]))
                for letter in range(n):
                    if reference.value(table, reference.turned(row, letter)) != value:
                        self.assertTrue(all(letter in letters for letters in right))
            self.assertEqual(least.certificate_sizes(table), tuple(sizes))

    def test_wrong_values(self):
        wrong = [(0, 3), (-1, 0), (0, 0), (1, 0), (0, True), [0, 1], (0, None), 0, "01", ((0, 1),), (0, 10 ** 10)]
        self.takes_just(least.is_certificate, (MOST, (0, 0, 0)), [(0, 1), (0, 2), (1, 2), (0, 1, 2)], wrong)

    def test_greatest_tables(self):
        self.assertEqual(least.certificate_sizes(rows.sum_table(8)), (8, 8))
        self.assertEqual(least.certificate_sizes((0,) * 255 + (1,)), (1, 8))
        self.assertEqual(least.certificate((0,) * 255 + (1,), (1, 1, 0, 1, 0, 1, 1, 1)), (2,))
        self.assertEqual(least.certificate_sizes((1,) * 4), (0, 0))

    def test_arguments(self):
        arguments = (support.table(MOST), support.row((0, 1, 1)))
        self.checks(least.certificate, *arguments)
        self.judges(least.is_certificate, *arguments)
        self.judges(least.is_certificate, support.table((1,)), support.row(()))
        for function in (least.certificate, lambda table, row: least.is_certificate(table, row, ())):
            self.refuses(errors.TooMany, 256, function, (0,) * 512, (0,) * 9)
            self.refuses(errors.InvalidInput, None, function, (0,) * 512, (0,) * 8)
            self.refuses(errors.InvalidTable, None, function, (0,) * 500, (0,) * 8)


class TestToldTree(support.Case):
    """[5.4]"""

    def told_tree(self, table, restriction):
        fitting = reference.fitting(restriction)
        if all(reference.value(table, row) == 0 for row in fitting):
            return 0
        if all(reference.value(table, row) == 1 for row in fitting):
            return 1
        row = [row for row in fitting if reference.value(table, row) == 1][0]
        letters = [v for v in least.certificate(table, row) if restriction[v] == 2]
        return self.asking(table, restriction, letters)

    def asking(self, table, restriction, letters):
        if not letters:
            return self.told_tree(table, restriction)
        sides = [self.asking(table, reference.told(restriction, [(letters[0], b)]), letters[1:]) for b in (0, 1)]
        return (letters[0], *sides)

    def test_told_tree(self):
        for table in SOME_TABLES + RANDOM_TABLES:
            n = letters_of(table)
            tree = least.told_tree(table)
            self.assertEqual(tree, self.told_tree(table, (2,) * n))
            self.assertEqual(reference.table_by(n, lambda row: reference.tree_value(tree, row)), table)
            zeros, ones = least.certificate_sizes(table)
            self.assertLessEqual(reference.depth(tree), zeros * ones)
            self.assertLessEqual(max(zeros, ones), least.least_depth(table))
            self.assertLessEqual(least.least_depth(table), reference.depth(tree))

    def test_edges(self):
        self.assertEqual([least.told_tree((0,)), least.told_tree((1,)), least.told_tree((1,) * 256)], [0, 1, 1])
        tree = least.told_tree(rows.sum_table(8))
        self.assertEqual(reference.depth(tree), 8)

    def test_what_is_not_true(self):
        """[5.5]"""
        self.assertEqual([least.least_depth(MOST), least.certificate_sizes(MOST)], [3, (2, 2)])


if __name__ == "__main__":
    unittest.main()
