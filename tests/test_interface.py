"""The interface of the document: its names, their files and their parameters, and what all of it promises."""

import ast
import importlib
import inspect
import pathlib
import random
import unittest

import support
from deepcodes import errors
from deepcodes.use import bench

ROOT = pathlib.Path(__file__).resolve().parent.parent
CHANCE = random.Random(101)
INTERFACE = {
    "deepcodes.letters.rows": (
        "inputs(n)", "input_at(n, number)", "number_of(n, row)", "is_input(n, value)", "is_table(n, value)",
        "value_at(table, row)", "yes_inputs(table)", "half(table, letter, bit)", "joined(low, high, letter)",
        "not_of(table)", "dual_of(table)", "both(table, other)", "either(table, other)", "sum_of(table, other)",
        "matters(table)", "narrowed(table)", "widened(n, table, letters)", "renamed(table, order)",
        "sum_table(n)", "sum_answer(table)", "is_sum_answer(table, value)", "agreement(table)",
        "unlike_input(table, other)",
    ),
    "deepcodes.letters.terms": (
        "is_term(n, value)", "is_formula(n, value)", "width_of(n, formula)", "formula_value(n, formula, row)",
        "coformula_value(n, formula, row)", "formula_table(n, formula)", "coformula_table(n, formula)",
        "turned(n, formula)", "left_of(restriction, term)", "lefts(restriction, formula)",
        "first_left(restriction, formula)", "within_answer(n, term, other)",
        "is_within_answer(n, term, other, value)", "prime_answer(n, table, term)",
        "is_prime_answer(n, table, term, value)", "prime_terms(n, table)", "needless_answer(n, formula, index)",
        "is_needless_answer(n, formula, index, value)", "alike_answer(n, one, other)",
        "is_alike_answer(n, one, other, value)",
    ),
    "deepcodes.told.restrictions": (
        "is_restriction(n, value)", "number_of(restriction)", "restriction_at(n, number)",
        "restrictions(n, free)", "how_many(n, free)", "free_letters(restriction)", "fitting(restriction)",
        "with_literals(restriction, literals)", "behind(first, second)", "table_under(table, restriction)",
        "through(restriction, free)", "order_answer(one, other)", "is_order_answer(one, other, value)",
        "both_answer(one, other)", "is_both_answer(one, other, value)", "around(one, other)",
        "parts_answer(n, some)", "is_parts_answer(n, some, value)",
    ),
    "deepcodes.trees.trees": (
        "is_tree(n, value)", "depth_of(n, tree)", "end_number(n, tree)", "value_at(n, tree, row)",
        "table_of(n, tree)", "ways(n, tree)", "formula_of(n, tree)", "coformula_of(n, tree)",
        "tree_or_input(n, formula, coformula)", "is_tree_or_input(n, formula, coformula, value)",
        "tree_under(n, tree, restriction)", "chosen(n, tree, low, high)", "neat(n, tree)", "needless(n, tree)",
        "is_needless(n, tree, value)", "tree_number(n, depth)",
    ),
    "deepcodes.trees.least": (
        "least_depth(table)", "least_answer(table, depth)", "is_least_answer(table, depth, value)",
        "is_plan(table, depth, value)", "certificate(table, row)", "is_certificate(table, row, value)",
        "certificate_sizes(table)", "told_tree(table)",
    ),
    "deepcodes.canon.canonical": (
        "canonical_tree(restriction, formula)", "is_canonical(restriction, formula, value)",
        "canonical_depth(restriction, formula)", "deep_row(restriction, formula, s)",
        "is_beginning(restriction, formula, value)", "deep_answer(restriction, formula, s)",
        "is_deep_answer(restriction, formula, s, value)", "way_at(restriction, formula, row)",
        "pieces(restriction, formula, literals)", "used_terms(n, formula)", "shortened(n, formula)",
    ),
    "deepcodes.canon.codes": (
        "code_of(restriction, formula, s)", "code_along(restriction, formula, literals)",
        "led_back(n, formula, code)", "terms_back(n, formula, code)", "is_along(n, formula, value)",
        "is_code(n, formula, s, value)", "canon_answer(restriction, formula, s)",
        "is_canon_answer(restriction, formula, s, value)", "codes_at(n, formula, free, s)",
    ),
    "deepcodes.canon.counts": (
        "row_number(width, s)", "is_row(width, s, value)", "deep_restrictions(n, formula, free, s)",
        "deep_number(n, formula, free, s)", "count_paper(n, formula, free, s)",
        "rows_at(restriction, formula, s)", "deep_row_numbers(n, formula, s)",
        "share_polynomial(n, formula, s)", "good_or_codes(n, formula, free, s)",
        "is_good_or_codes(n, formula, free, s, value)",
    ),
    "deepcodes.canon.switched": (
        "colefts(restriction, formula)", "switched(restriction, formula, s)",
        "is_switched(restriction, formula, s, value)", "width_answer(table, width, bit)",
        "is_width_answer(table, width, bit, value)", "least_widths(table)", "grades(restriction, formula)",
        "stiff_number(n, formula, free, s)",
    ),
    "deepcodes.several.several": (
        "turn_of(restriction, formulas, t)", "common_tree(restriction, formulas, t)",
        "common_depth(restriction, formulas, t)", "is_common_tree(restriction, formulas, t, value)",
        "common_code(restriction, formulas, t, s)", "common_back(n, formulas, code)",
        "is_common_code(n, formulas, t, s, value)", "common_answer(restriction, formulas, t, s)",
        "common_bad(n, formulas, free, t, s)", "common_bound(n, formulas, free, t, s)",
    ),
    "deepcodes.circuits.circuits": (
        "is_circuit(n, value)", "are_layers(n, value)", "circuit_value(n, circuit, row)",
        "circuit_table(n, circuit)", "circuit_depth(n, circuit)", "not_of(n, circuit)", "pushed(n, circuit)",
        "layers_value(n, layers, row)", "layers_table(n, layers)", "layers_of(n, circuit)",
        "are_layers_of(n, circuit, value)", "circuit_of(n, layers)", "is_circuit_of(n, layers, value)",
    ),
    "deepcodes.circuits.lowered": (
        "bottom_of(n, layers, gate)", "told_more(restriction, free)", "charge_of(n, layers, restriction, s)",
        "is_charge(n, layers, restriction, s, value)", "lowered(n, layers, restriction, s)",
        "walk(n, layers, free, depths)", "is_walk(n, layers, free, depths, value)",
        "gates_at_least(l, m, s, w)",
    ),
    "deepcodes.circuits.wrong": (
        "wrong_input(restriction, tree)", "is_wrong_input(restriction, tree, value)",
        "wrong_number(restriction, tree, table)", "unlike_by(table, depth, plan, tree)",
        "is_unlike(table, tree, value)", "formula_answer(restriction, formula)",
        "is_formula_answer(restriction, formula, value)", "refuted(n, layers, free, depths)",
        "is_refuted(n, layers, free, depths, value)", "wrong_of(n, circuit)",
    ),
    "deepcodes.sums.leastsum": (
        "sum_formula(n)", "sum_coformula(n)", "sum_tree(n)", "sum_answer(n, formula)",
        "is_sum_answer(n, formula, value)", "cosum_answer(n, formula)", "is_cosum_answer(n, formula, value)",
        "tree_answer(n, tree)", "is_tree_answer(n, tree, value)", "wrong_number(n, formula)",
        "is_apart(n, formula)",
    ),
    "deepcodes.sums.blocks": (
        "is_sizes(n, value)", "members_of(n, sizes)", "blocks_number(n, sizes)", "sum_circuit(n, sizes)",
        "is_sum_circuit(n, sizes, value)", "least_sizes(n, levels)", "is_least_sizes(n, levels, value)",
        "tells_sum(n, circuit)", "gates_needed(n, circuit)",
    ),
    "deepcodes.waves.waves": (
        "wave(table, lot)", "waves(table)", "is_waves(n, value)", "table_by(n, waves)",
        "waves_under(restriction, table)", "weights(table)", "degree(table)", "degree_answer(table, s)",
        "is_degree_answer(table, s, value)", "keeping(n, j, m, s)", "deep_weight(table, m, s)",
        "deep_number(table, m, s)", "weight_paper(table, m, s)", "is_weight_paper(table, m, s, value)",
    ),
    "deepcodes.waves.turns": (
        "turns_at(table, row)", "turn_counts(table)", "turn_number(table)", "wrong_inputs(table)",
        "border_number(table)", "least_wrong(n, width, yes)", "way_sum(n, tree)", "turns_under(table, free)",
        "width_answer(table, width)", "is_width_answer(table, width, value)",
    ),
    "deepcodes.small.shrink": (
        "is_bush(n, value)", "leaves(n, bush)", "bush_table(n, bush)", "told_letter(n, bush, letter, bit)",
        "nice_answer(n, bush)", "is_nice_answer(n, bush, value)", "nice_bush(n, bush)", "taken(n, bush)",
        "best_setting(n, bush)", "least_leaves(n)", "sum_bush(n)", "led_answer(n, bush)",
        "is_led(n, bush, value)",
    ),
    "deepcodes.small.rects": (
        "leaf_parts(n, bush, yes, no)", "leaf_marks(n, bush, yes, no)", "neighbour_count(n, yes, no)",
        "leaves_at_least(n, yes, no)", "rect_paper(table)", "is_rect_paper(table, value)", "sum_bounds(n)",
    ),
    "deepcodes.small.thirds": (
        "is_polynomial(n, value)", "polynomial_of(n, row)", "row_of(n, polynomial)", "degree_of(n, polynomial)",
        "agreeing(n, polynomial)", "most_agreeing(n, degree)", "low_polynomial(n, polynomial, row)",
        "is_low_polynomial(n, polynomial, row, value)", "is_circuit(n, value)", "table_of(n, circuit)",
        "good_factors(n, circuit, rounds)", "are_good(n, circuit, rounds, value)",
        "polynomials(n, circuit, factors)", "charged(n, circuit, factors)", "sum_answer(n, circuit, factors)",
        "is_sum_answer(n, circuit, factors, value)",
    ),
    "deepcodes.judge.judge": (
        "is_claim(value)", "opposite(claim)", "takes(claim, paper)",
    ),
    "deepcodes.judge.answers": (
        "answered(claim)",
    ),
    "deepcodes.use.texts": (
        "formula_text(n, formula)", "read_formula(n, text)", "restriction_text(restriction)",
        "read_restriction(text)", "circuit_text(n, circuit)", "read_circuit(n, text)", "tree_text(n, tree)",
        "read_tree(n, text)", "code_text(code)", "read_code(text)",
    ),
}
CONSTANTS = {
    "deepcodes.trees.least": {"MOST_VALUES": 256},
    "deepcodes.canon.switched": {"MOST_CLAUSES": 1024},
    "deepcodes.several.several": {"MOST_FORMULAS": 8},
    "deepcodes.circuits.circuits": {"MOST_LINES": 120, "MOST_LOT": 64, "MOST_GATES": 60, "MOST_LAYERS": 6},
    "deepcodes.sums.leastsum": {"MOST_TERMS": 64},
    "deepcodes.sums.blocks": {"MOST_SIZE": 10},
    "deepcodes.waves.turns": {"MOST_VALUES": 64},
    "deepcodes.small.shrink": {"MOST_LEAVES": 128},
}
BENCH_ATTRIBUTES = ("n", "formula", "restriction", "lines")
JUDGES = ("is_", "are_", "has_", "do_", "does_")
DEEP = (((0, 1), (1, 1)), ((1, 0), (2, 1)))
# A right value for each parameter, with the n of 3 and the restriction of three letters.
GOODS = {
    "n": 3, "number": 5, "row": (0, 1, 1), "table": (0, 0, 0, 1, 1, 1, 0, 1), "other": (0,) * 8, "letter": 1, "bit": 0,
    "low": (0, 1), "high": (1, 1), "letters": (0, 1, 2), "order": (2, 0, 1), "formula": DEEP, "restriction": (2, 0, 2),
    "term": ((0, 1),), "index": 1, "one": DEEP, "free": 1, "literals": (), "first": (2, 1), "second": (0,),
    "some": ((2, 2, 2),), "tree": (0, 0, 1), "coformula": DEEP, "depth": 2, "s": 2, "code": ((1, 1, 2), ((0, 0, 1),)),
    "width": 2, "formulas": (DEEP, ()), "t": 1, "circuit": (("letter", 0, 1), ("and", (0,))), "layers": ("ands", (DEEP,), ()),
    "gate": 0, "depths": (2,), "l": 5, "m": 3, "w": 2, "plan": {(2, 2, 2): ()}, "sizes": (3,), "levels": 1,
    "lot": (0, 2), "waves": {}, "j": 2, "yes": (), "bush": ("and", (0, 1), (1, 0)), "no": (), "polynomial": {(0,): 1},
    "degree": 1, "rounds": 1, "factors": ((), ((1,),)), "claim": ("low", (2,), (), 1), "paper": 0, "text": "0\n", "value": 0,
}
# Where a stage lets other values for a name.
OTHER_GOODS = {
    "deepcodes.trees.trees": {"low": 0, "high": (1, 0, 1)}, "deepcodes.small.thirds": {"row": (0, 1, 2, 0, 1, 2, 0, 1)},
    "deepcodes.use.texts": {"circuit": (("letter", 0, 1),)},
}
PARTS = (
    ("letter", 0, 1), ("letter", 0, 0), ("letter", 1, 1), ("letter", 1, 0), ("and", (0, 3)), ("and", (1, 2)),
    ("or", (4, 5)),
)
PLAN = {(2, 2): (0, 1), (0, 2): (), (2, 1): ()}
# What is right for one function alone.
CALLS = {
    "joined": [(0, 1), (1, 1), 0], "behind": [(2, 1, 2), (0, 2)], "order_answer": [(2, 0, 1), (1, 2, 2)],
    "is_order_answer": [(2, 0, 1), (1, 2, 2), 0], "both_answer": [(2, 0, 1), (1, 2, 2)], "around": [(2, 0, 1), (1, 2, 2)],
    "is_both_answer": [(2, 0, 1), (1, 2, 2), 0], "within_answer": [3, ((0, 1),), ((0, 1), (1, 0))],
    "is_within_answer": [3, ((0, 1),), ((0, 1), (1, 0)), 0], "alike_answer": [3, DEEP, ()],
    "is_alike_answer": [3, DEEP, (), 0], "through": [(2, 0, 2), 2], "way_at": [(2, 0, 2), DEEP, (1, 0, 1)],
    "common_back": [3, (DEEP, ()), ((1, 1, 2), ((0, ((0, 0, 1, 0),)),))], "told_more": [(2, 0, 2), 1],
    "lowered": [3, ("ands", (DEEP,), (((0,),),)), (2, 0, 0), 5], "unlike_by": [(0, 1, 1, 0), 1, PLAN, (0, 0, 1)],
    "gates_needed": [2, PARTS], "table_by": [1, {(): 2, (0,): 0}], "least_wrong": [3, 2, 4],
    "walk": [3, ("ands", (DEEP,), ()), (1,), (2,)], "is_walk": [3, ("ands", (DEEP,), ()), (1,), (2,), 0],
    "refuted": [3, ("ands", (DEEP,), ()), (2,), (2,)], "is_refuted": [3, ("ands", (DEEP,), ()), (2,), (2,), 0],
    "read_formula": [3, "+0 -2\n"], "read_circuit": [3, "or -\n"],
}
# Values as [0.3] lets them: not too deep, integers of at most 100 digits.
WRONG = [
    None, True, False, -1, 0, 1, 2, 3, 11, 10 ** 9, 10 ** 99, -10 ** 99, "", "0\n", "true\n", "x" * 4000, (), [], {}, (0,),
    (1,), (2,), (2, 2, 2), (0, 1), (0, 1, 0), ((),), ((0, 1),), (((0, 1),),), ((((0, 1),),),), [0, 1], {0: 1}, {(): 1},
    {(0,): 1}, {(2, 2): ()}, (None,), ("and", ()), (("and", ()),), ("ands", ((),), ()), ("low", (2,), (), 1), ("and", 0, 1),
    (0, 0, 1), ((2,), ()), ((1,), ((0, 0, 1),)), ((((((((0,),),),),),),),), [[[[[[[]]]]]]], errors.InvalidNumber(1),
    errors.DeepError("x"), ("term",), ((2, 2), (0, 1)), (10 ** 99,), ((10 ** 99, 1),), {10 ** 99: {}}, ("", ""), (True,),
    (False, True), ((True, 1),), ((0, True),),
]


def parsed(module):
    path = ROOT / (module.replace(".", "/") + ".py")
    return ast.parse(path.read_text(encoding="utf-8"))


def told_functions():
    """All functions of the interface with their modules and parameters."""
    for module, several in INTERFACE.items():
        for told in several:
            name, _, rest = told.partition("(")
            yield module, name, tuple(rest.rstrip(")").split(", "))


def function_of(module, name):
    return getattr(importlib.import_module(module), name)


def goods_for(module, name, parameters):
    """Arguments that are right together."""
    goods = {**GOODS, **OTHER_GOODS.get(module, {})}
    return list(CALLS.get(name, [goods[parameter] for parameter in parameters]))


class TestInterface(support.Case):
    def test_functions(self):
        """Each name is defined in the file under which it stands, with the parameters that it is told with."""
        for module, name, parameters in told_functions():
            defined = [node for node in parsed(module).body if isinstance(node, ast.FunctionDef) and node.name == name]
            self.assertEqual(len(defined), 1, (module, name))
            told = inspect.signature(function_of(module, name))
            self.assertEqual(tuple(told.parameters), parameters, (module, name))
            kinds = {parameter.kind for parameter in told.parameters.values()}
            self.assertEqual(kinds, {inspect.Parameter.POSITIONAL_OR_KEYWORD})
        self.assertEqual(len(list(told_functions())), 258)

    def test_constants(self):
        for module, constants in CONSTANTS.items():
            for name, wanted in constants.items():
                self.assertEqual(getattr(importlib.import_module(module), name), wanted)

    def test_bench(self):
        """The methods stand in the class itself; the attributes are set on each object."""
        classes = [node for node in parsed("deepcodes.use.bench").body if isinstance(node, ast.ClassDef)]
        self.assertEqual([node.name for node in classes], ["Bench"])
        methods = {node.name for node in classes[0].body if isinstance(node, ast.FunctionDef)}
        self.assertLessEqual({"__init__", "tell", "__len__", "__str__"}, methods)
        self.assertLessEqual(set(BENCH_ATTRIBUTES), set(vars(bench.Bench(2))))
        self.assertIsInstance(bench.Bench(2).lines, tuple)

    def test_judges(self):
        """[0.4]: True or False, and no error for `value`, whatever the value is."""
        many = 0
        for module, name, parameters in told_functions():
            if name.startswith(JUDGES) and parameters[-1] == "value":
                many += 1
                goods = goods_for(module, name, parameters)
                for value in support.JUNK + WRONG:
                    found = function_of(module, name)(*goods[:-1], value)
                    self.assertIs(type(found), bool, (name, value))
        self.assertEqual(many, 61)


class TestErrors(support.Case):
    """[0.3], [0.6], [0.18]"""

    def test_first_parameters(self):
        """A wrong n, restriction or table ahead of all others is told, whatever stands behind it."""
        kinds = {"n": errors.InvalidNumber, "restriction": errors.InvalidRestriction, "table": errors.InvalidTable,
                 "claim": errors.InvalidClaim, "width": errors.InvalidNumber, "l": errors.InvalidNumber}
        wrong = [None, True, "0", [], {}, (3,), 10 ** 99, -1, 11, errors.InvalidNumber(1), [0, 1], (None,), (True,)]
        many = 0
        for module, name, parameters in told_functions():
            error = kinds.get(parameters[0])
            if error is None or name.startswith(("is_claim", "read_code")):
                continue
            for value in wrong:
                for others in ([None] * 9, goods_for(module, name, parameters)[1:] + [None] * 9):
                    many += 1
                    call = [value, *others[:len(parameters) - 1]]
                    self.refuses(error, value, function_of(module, name), *call)
        self.assertGreater(many, 4000)

    def test_right_calls(self):
        """The arguments that the tests here begin with are right together, so that one wrong one is told."""
        for module, name, parameters in told_functions():
            function_of(module, name)(*goods_for(module, name, parameters))

    def test_each_parameter(self):
        """Any wrong values: a call returns, or raises one error of the package, of the first wrong argument."""
        for module, name, parameters in told_functions():
            function = function_of(module, name)
            goods = goods_for(module, name, parameters)
            for at in range(len(parameters)):
                for value in WRONG:
                    self.raises_known(function, [*goods[:at], value, *goods[at + 1:]])
            for _ in range(40):
                self.raises_known(function, [CHANCE.choice(WRONG) for _ in parameters])

    def raises_known(self, function, call):
        before = repr(call)
        try:
            function(*call)
        except errors.DeepError as error:
            self.assertIsNot(type(error), errors.DeepError)
            if isinstance(error, errors.InvalidNumber):
                self.assertIn("InvalidNumber", type(error).__name__)
                self.assertTrue(any(error.given is value for value in call), (function, call))
            if isinstance(error, errors.TooMany):
                self.assertIs(type(error.most), int)
        # [0.2]: no call changes its arguments.
        self.assertEqual(repr(call), before)

    def test_equal_calls(self):
        """[0.2]: equal calls return equal results."""
        for module, name, parameters in told_functions():
            call = goods_for(module, name, parameters)
            first = function_of(module, name)(*call)
            self.assertEqual(function_of(module, name)(*call), first)
            self.assertEqual(repr(function_of(module, name)(*call)), repr(first))


if __name__ == "__main__":
    unittest.main()
