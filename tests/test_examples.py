"""The examples of the document, word for word."""

import importlib
import unittest

from deepcodes import errors

BLOCKS = (
    ('Examples', None, r"""
>>> DEEP = (((0, 1), (1, 1)), ((1, 1), (2, 1), (3, 1)), ((1, 0), (4, 1), (5, 1)))
>>> FREE, SHUT = (2,) * 6, (0, 2, 2, 2, 2, 2)
"""),
    ('Stage 1: inputs and tables', "deepcodes.letters.rows", r"""
>>> AND, SUM = (0, 0, 0, 1), sum_table(2)
>>> [SUM, inputs(2), dual_of(AND), not_of(AND), number_of(3, (1, 0, 1)), half(SUM, 1, 1), joined((0, 0), (0, 1), 1) == AND]
[(0, 1, 1, 0), ((0, 0), (1, 0), (0, 1), (1, 1)), (0, 1, 1, 1), (1, 1, 1, 0), 5, (1, 0), True]
>>> WIDE = widened(3, SUM, (0, 2))
>>> [WIDE, matters(WIDE), narrowed(WIDE) == SUM, agreement(WIDE), agreement(SUM), renamed((0, 1, 0, 0), (1, 0)), unlike_input(AND, SUM)]
[(0, 1, 0, 1, 1, 0, 1, 0), (0, 2), True, 4, 4, (0, 0, 1, 0), (1, 0)]
>>> [sum_answer(SUM), sum_answer((1,)), is_sum_answer(AND, ("kept", (0, 0), 1)), is_sum_answer(AND, ("kept", (1, 0), 1))]
[('sum',), ('not sum',), True, False]
>>> half(AND, 2, 0)
raises InvalidNumber(2)
"""),
    ('Stage 2: terms and formulas', "deepcodes.letters.terms", r"""
>>> F = (((0, 1), (1, 1)), ((1, 0), (2, 1)))
>>> [width_of(3, F), formula_table(3, F), coformula_table(3, F), turned(3, F)]
[2, (0, 0, 0, 1, 1, 1, 0, 1), (0, 1, 0, 0, 0, 1, 1, 1), (((0, 0), (1, 0)), ((1, 1), (2, 0)))]
>>> [lefts((2, 1, 2), F), lefts((2, 2, 0), F), first_left((0, 2, 2), F), left_of((2, 0, 2), F[0])]
[(((0, 1),),), (((0, 1), (1, 1)),), (1, ((1, 0), (2, 1))), None]
>>> [prime_terms(3, formula_table(3, F)), within_answer(3, F[0], ((0, 1),)), is_within_answer(3, ((0, 1),), F[0], ("input", (1, 0, 1)))]
[(((0, 1), (1, 1)), ((0, 1), (2, 1)), ((1, 0), (2, 1))), ('within',), True]
>>> MORE = (*F, ((0, 1), (2, 1)))
>>> [needless_answer(3, MORE, 2), alike_answer(3, F, MORE), is_prime_answer(3, formula_table(3, F), ((0, 1), (1, 1), (2, 0)), ("letter", 2))]
[('needless',), ('alike',), True]
>>> width_of(2, F)
raises InvalidFormula
"""),
    ('Stage 3: restrictions', "deepcodes.told.restrictions", r"""
>>> [number_of(SHUT), restriction_at(3, 5), restrictions(2, 1), how_many(6, 2), fitting((2, 1)), table_under((0, 1, 1, 0), (2, 1))]
[726, (2, 1, 0), ((2, 0), (2, 1), (0, 2), (1, 2)), 240, ((0, 1), (1, 1)), (1, 0)]
>>> [behind((2, 0, 2), (1, 2)), through((1, 0, 2), 2), order_answer((1, 0, 2), (2, 0, 2)), is_order_answer((1, 2), (0, 1), ("letter", 1))]
[(1, 0, 2), (((2, 0, 2), (1, 2)), ((1, 2, 2), (0, 2))), ('rest', (1, 2)), True]
>>> [both_answer((1, 2), (2, 0)), both_answer((1, 2), (0, 2)), around((1, 0, 2), (1, 1, 0)), parts_answer(2, ((1, 2), (0, 0), (0, 1)))]
[('both', (1, 0)), ('letter', 0), (1, 2, 2), ('parts',)]
>>> behind((2, 0), (1, 2))
raises InvalidRestriction
"""),
    ('Stage 4: trees', "deepcodes.trees.trees", r"""
>>> PICK = (0, (1, 0, 1), (2, 1, 1))
>>> [depth_of(3, PICK), end_number(3, PICK), table_of(3, PICK), ways(3, PICK)[1:3]]
[2, 4, (0, 1, 1, 1, 0, 1, 1, 1), ((((0, 0), (1, 1)), 1), (((0, 1), (2, 0)), 1))]
>>> [formula_of(3, PICK), coformula_of(3, PICK), neat(3, PICK), needless(3, PICK), tree_under(3, PICK, (2, 1, 2))]
[(((0, 0), (1, 1)), ((0, 1), (2, 0)), ((0, 1), (2, 1))), (((0, 1), (1, 1)),), (0, (1, 0, 1), 1), ((0, 1),), (0, 1, (2, 1, 1))]
>>> [is_tree_or_input(2, (((0, 1),), ((1, 1),)), (((0, 1), (1, 1)),), ("tree", (0, (1, 0, 1), 1))), chosen(2, (0, 0, 1), 1, (0, 1, (1, 0, 1))), tree_number(2, 2)]
[True, (0, 1, (1, 0, 1)), 74]
>>> value_at(1, (0, 0, 1), (2,))
raises InvalidInput
"""),
    ('Stage 5: least trees', "deepcodes.trees.least", r"""
>>> MOST = (0, 0, 0, 1, 0, 1, 1, 1)
>>> [least_depth(MOST), certificate_sizes(MOST), certificate(MOST, (0, 1, 1)), told_tree(MOST)]
[3, (2, 2), (1, 2), (0, (1, 0, (2, 0, 1)), (1, (2, 0, 1), 1))]
>>> [least_answer(MOST, 2)[0], least_answer(MOST, 3)[0], least_answer((1, 1), 0), is_least_answer((0, 1), 0, ("plan", {(2,): ()}))]
['plan', 'tree', ('tree', 1), True]
>>> PLAN = {(2, 2): (0, 1), (0, 2): (), (2, 1): ()}
>>> [is_plan((0, 1, 1, 0), 1, PLAN), is_plan((0, 1, 1, 1), 1, PLAN), is_certificate(MOST, (0, 0, 0), (0, 2)), is_certificate(MOST, (0, 0, 0), (0,))]
[True, False, True, False]
>>> certificate(MOST, (0, 1))
raises InvalidInput
"""),
    ('Stage 6: canonical trees', "deepcodes.canon.canonical", r"""
>>> [canonical_depth(FREE, DEEP), canonical_depth(SHUT, DEEP), deep_row(FREE, DEEP, 3), deep_row(FREE, DEEP, 5)]
[4, 5, ((0, 0), (1, 0), (4, 0)), None]
>>> PAIR = (((0, 1), (1, 0)), ((1, 1),), ((0, 1), (1, 0), (2, 1)))
>>> [canonical_tree((2, 2, 2), PAIR), canonical_depth((2, 2, 2), PAIR[::-1]), used_terms(3, PAIR), way_at((2, 0, 2), PAIR, (1, 0, 1))]
[(0, (1, 0, 1), (1, 1, 1)), 3, (0, 1), ((0, 1),)]
>>> [pieces(FREE, DEEP, ((0, 0), (1, 0), (4, 0))), is_beginning(FREE, DEEP, ((0, 1), (1, 1), (4, 0)))]
[((0, ((0, 1), (1, 1))), (2, ((4, 1),))), False]
>>> [deep_answer((2, 2, 2), PAIR, 3)[0], is_deep_answer((2, 2, 2), PAIR, 2, ("row", ((0, 1), (1, 1)))), is_deep_answer((2, 2, 2), PAIR, 2, ("tree", canonical_tree((2, 2, 2), PAIR)))]
['tree', True, False]
>>> way_at(SHUT, DEEP, (1, 0, 0, 0, 0, 0))
raises InvalidOperation
"""),
    ('Stage 7: codes there and back', "deepcodes.canon.codes", r"""
>>> CODE = code_of(FREE, DEEP, 4)
>>> [CODE, led_back(6, DEEP, CODE) == FREE, terms_back(6, DEEP, CODE)]
[((1, 1, 2, 2, 1, 1), ((0, 0, 0), (1, 0, 1), (1, 0, 0), (2, 0, 1))), True, (0, 2)]
>>> ALONG = code_along((2, 2, 2), PAIR, ((0, 1), (1, 1)))
>>> [ALONG, led_back(3, PAIR, ALONG), is_along(3, PAIR, ALONG), is_code(3, PAIR, 2, ALONG)]
[((1, 0, 2), ((0, 1, 0), (1, 1, 1))), (2, 2, 2), True, False]
>>> [led_back(3, PAIR, ((1, 0, 2), ((0, 0, 0),))), is_along(3, PAIR, ((1, 0, 2), ((0, 0, 0),))), led_back(3, PAIR, ((2, 0, 2), ((0, 0, 1),)))]
[(2, 0, 2), False, None]
>>> [code_of(FREE, DEEP, 5), canon_answer(SHUT, DEEP, 5)[0], len(codes_at(3, PAIR, 3, 2))]
[None, 'code', 1]
>>> codes_at(3, PAIR, 4, 1)
raises InvalidNumber(4)
"""),
)


def steps(text):
    """The pairs of a statement and of the line that tells its result, None without one."""
    found = []
    for line in text.strip().split("\n"):
        if line.startswith(">>> "):
            found.append((line[4:], None))
        else:
            found[-1] = (found[-1][0], line)
    return found


class TestExamples(unittest.TestCase):
    def test_examples(self):
        told = {}
        for title, module, text in BLOCKS:
            # Some modules have functions of one name, so each block sees those of its own.
            names = vars(importlib.import_module(module)) if module else {}
            for statement, wanted in steps(text):
                with self.subTest(title, statement=statement):
                    self.check({**names, **told}, told, statement, wanted)

    def check(self, names, told, statement, wanted):
        if wanted is None:
            exec(statement, names, told)
        elif wanted.startswith("raises "):
            self.check_error(names, statement, wanted[len("raises "):])
        else:
            self.assertEqual(repr(eval(statement, names)), wanted)

    def check_error(self, names, statement, wanted):
        with self.assertRaises(errors.DeepError) as caught:
            eval(statement, names)
        name, _, value = wanted.partition("(")
        self.assertIs(type(caught.exception), getattr(errors, name))
        if value:
            self.assertEqual(list(vars(caught.exception).values()), [eval(value[:-1])])

    def test_counted(self):
        self.assertEqual(len(BLOCKS), 8)
        raised = [wanted for _, _, text in BLOCKS for _, wanted in steps(text) if wanted and wanted.startswith("raises")]
        self.assertEqual(len(raised), 7)


if __name__ == "__main__":
    unittest.main()
