"""The examples of the document, word for word."""

import importlib
import unittest

from deepcodes import errors

BLOCKS = (
    ('Examples', (), r"""
>>> DEEP = (((0, 1), (1, 1)), ((1, 1), (2, 1), (3, 1)), ((1, 0), (4, 1), (5, 1)))
>>> FREE, SHUT = (2,) * 6, (0, 2, 2, 2, 2, 2)
"""),
    ('Stage 1: inputs and tables', ("deepcodes.letters.rows",), r"""
>>> AND, SUM = (0, 0, 0, 1), sum_table(2)
>>> [SUM, inputs(2), dual_of(AND), not_of(AND), number_of(3, (1, 0, 1)), half(SUM, 1, 1), joined((0, 0), (0, 1), 1) == AND]
[(0, 1, 1, 0), ((0, 0), (1, 0), (0, 1), (1, 1)), (0, 1, 1, 1), (1, 1, 1, 0), 5, (1, 0), True]
>>> WIDE = widened(3, SUM, (0, 2))
>>> [WIDE, matters(WIDE), narrowed(WIDE) == SUM, agreement(WIDE), agreement(SUM), renamed((0, 1, 0, 0), (1, 0)), unlike_input(AND, SUM)]
[(0, 1, 0, 1, 1, 0, 1, 0), (0, 2), True, 4, 4, (0, 0, 1, 0), (1, 0)]
>>> [sum_answer(SUM), sum_answer((1,)), is_sum_answer(AND, ("kept", (0, 0), 1)), is_sum_answer(AND, ("kept", (1, 0), 1))]
[('sum',), ('not sum',), True, False]
>>> half(AND, 2, 0)
raises InvalidNumber(2)
"""),
    ('Stage 2: terms and formulas', ("deepcodes.letters.terms",), r"""
>>> F = (((0, 1), (1, 1)), ((1, 0), (2, 1)))
>>> [width_of(3, F), formula_table(3, F), coformula_table(3, F), turned(3, F)]
[2, (0, 0, 0, 1, 1, 1, 0, 1), (0, 1, 0, 0, 0, 1, 1, 1), (((0, 0), (1, 0)), ((1, 1), (2, 0)))]
>>> [lefts((2, 1, 2), F), lefts((2, 2, 0), F), first_left((0, 2, 2), F), left_of((2, 0, 2), F[0])]
[(((0, 1),),), (((0, 1), (1, 1)),), (1, ((1, 0), (2, 1))), None]
>>> [prime_terms(3, formula_table(3, F)), within_answer(3, F[0], ((0, 1),)), is_within_answer(3, ((0, 1),), F[0], ("input", (1, 0, 1)))]
[(((0, 1), (1, 1)), ((0, 1), (2, 1)), ((1, 0), (2, 1))), ('within',), True]
>>> MORE = (*F, ((0, 1), (2, 1)))
>>> [needless_answer(3, MORE, 2), alike_answer(3, F, MORE), is_prime_answer(3, formula_table(3, F), ((0, 1), (1, 1), (2, 0)), ("letter", 2))]
[('needless',), ('alike',), True]
>>> width_of(2, F)
raises InvalidFormula
"""),
    ('Stage 3: restrictions', ("deepcodes.told.restrictions",), r"""
>>> [number_of(SHUT), restriction_at(3, 5), restrictions(2, 1), how_many(6, 2), fitting((2, 1)), table_under((0, 1, 1, 0), (2, 1))]
[726, (2, 1, 0), ((2, 0), (2, 1), (0, 2), (1, 2)), 240, ((0, 1), (1, 1)), (1, 0)]
>>> [behind((2, 0, 2), (1, 2)), through((1, 0, 2), 2), order_answer((1, 0, 2), (2, 0, 2)), is_order_answer((1, 2), (0, 1), ("letter", 1))]
[(1, 0, 2), (((2, 0, 2), (1, 2)), ((1, 2, 2), (0, 2))), ('rest', (1, 2)), True]
>>> [both_answer((1, 2), (2, 0)), both_answer((1, 2), (0, 2)), around((1, 0, 2), (1, 1, 0)), parts_answer(2, ((1, 2), (0, 0), (0, 1)))]
[('both', (1, 0)), ('letter', 0), (1, 2, 2), ('parts',)]
>>> behind((2, 0), (1, 2))
raises InvalidRestriction
"""),
    ('Stage 4: trees', ("deepcodes.trees.trees",), r"""
>>> PICK = (0, (1, 0, 1), (2, 1, 1))
>>> [depth_of(3, PICK), end_number(3, PICK), table_of(3, PICK), ways(3, PICK)[1:3]]
[2, 4, (0, 1, 1, 1, 0, 1, 1, 1), ((((0, 0), (1, 1)), 1), (((0, 1), (2, 0)), 1))]
>>> [formula_of(3, PICK), coformula_of(3, PICK), neat(3, PICK), needless(3, PICK), tree_under(3, PICK, (2, 1, 2))]
[(((0, 0), (1, 1)), ((0, 1), (2, 0)), ((0, 1), (2, 1))), (((0, 1), (1, 1)),), (0, (1, 0, 1), 1), ((0, 1),), (0, 1, (2, 1, 1))]
>>> [is_tree_or_input(2, (((0, 1),), ((1, 1),)), (((0, 1), (1, 1)),), ("tree", (0, (1, 0, 1), 1))), chosen(2, (0, 0, 1), 1, (0, 1, (1, 0, 1))), tree_number(2, 2)]
[True, (0, 1, (1, 0, 1)), 74]
>>> value_at(1, (0, 0, 1), (2,))
raises InvalidInput
"""),
    ('Stage 5: least trees', ("deepcodes.trees.least",), r"""
>>> MOST = (0, 0, 0, 1, 0, 1, 1, 1)
>>> [least_depth(MOST), certificate_sizes(MOST), certificate(MOST, (0, 1, 1)), told_tree(MOST)]
[3, (2, 2), (1, 2), (0, (1, 0, (2, 0, 1)), (1, (2, 0, 1), 1))]
>>> [least_answer(MOST, 2)[0], least_answer(MOST, 3)[0], least_answer((1, 1), 0), is_least_answer((0, 1), 0, ("plan", {(2,): ()}))]
['plan', 'tree', ('tree', 1), True]
>>> PLAN = {(2, 2): (0, 1), (0, 2): (), (2, 1): ()}
>>> [is_plan((0, 1, 1, 0), 1, PLAN), is_plan((0, 1, 1, 1), 1, PLAN), is_certificate(MOST, (0, 0, 0), (0, 2)), is_certificate(MOST, (0, 0, 0), (0,))]
[True, False, True, False]
>>> certificate(MOST, (0, 1))
raises InvalidInput
"""),
    ('Stage 6: canonical trees', ("deepcodes.canon.canonical",), r"""
>>> [canonical_depth(FREE, DEEP), canonical_depth(SHUT, DEEP), deep_row(FREE, DEEP, 3), deep_row(FREE, DEEP, 5)]
[4, 5, ((0, 0), (1, 0), (4, 0)), None]
>>> PAIR = (((0, 1), (1, 0)), ((1, 1),), ((0, 1), (1, 0), (2, 1)))
>>> [canonical_tree((2, 2, 2), PAIR), canonical_depth((2, 2, 2), PAIR[::-1]), used_terms(3, PAIR), way_at((2, 0, 2), PAIR, (1, 0, 1))]
[(0, (1, 0, 1), (1, 1, 1)), 3, (0, 1), ((0, 1),)]
>>> [pieces(FREE, DEEP, ((0, 0), (1, 0), (4, 0))), is_beginning(FREE, DEEP, ((0, 1), (1, 1), (4, 0)))]
[((0, ((0, 1), (1, 1))), (2, ((4, 1),))), False]
>>> [deep_answer((2, 2, 2), PAIR, 3)[0], is_deep_answer((2, 2, 2), PAIR, 2, ("row", ((0, 1), (1, 1)))), is_deep_answer((2, 2, 2), PAIR, 2, ("tree", canonical_tree((2, 2, 2), PAIR)))]
['tree', True, False]
>>> way_at(SHUT, DEEP, (1, 0, 0, 0, 0, 0))
raises InvalidOperation
"""),
    ('Stage 7: codes there and back', ("deepcodes.canon.codes",), r"""
>>> CODE = code_of(FREE, DEEP, 4)
>>> [CODE, led_back(6, DEEP, CODE) == FREE, terms_back(6, DEEP, CODE)]
[((1, 1, 2, 2, 1, 1), ((0, 0, 0), (1, 0, 1), (1, 0, 0), (2, 0, 1))), True, (0, 2)]
>>> ALONG = code_along((2, 2, 2), PAIR, ((0, 1), (1, 1)))
>>> [ALONG, led_back(3, PAIR, ALONG), is_along(3, PAIR, ALONG), is_code(3, PAIR, 2, ALONG)]
[((1, 0, 2), ((0, 1, 0), (1, 1, 1))), (2, 2, 2), True, False]
>>> [led_back(3, PAIR, ((1, 0, 2), ((0, 0, 0),))), is_along(3, PAIR, ((1, 0, 2), ((0, 0, 0),))), led_back(3, PAIR, ((2, 0, 2), ((0, 0, 1),)))]
[(2, 0, 2), False, None]
>>> [code_of(FREE, DEEP, 5), canon_answer(SHUT, DEEP, 5)[0], len(codes_at(3, PAIR, 3, 2))]
[None, 'code', 1]
>>> codes_at(3, PAIR, 4, 1)
raises InvalidNumber(4)
"""),
    ('Stage 8: how many codes there are', ("deepcodes.canon.counts",), r"""
>>> [row_number(2, 1), row_number(2, 2), row_number(3, 2), is_row(2, 2, ((1, 0, 1), (0, 1, 1))), is_row(2, 2, ((1, 0, 0), (0, 1, 1)))]
[4, 20, 48, True, False]
>>> ONE = (((0, 1), (1, 1)), ((1, 0), (2, 1)))
>>> [deep_row_numbers(3, ONE, 1), deep_row_numbers(3, ONE, 2), deep_row_numbers(3, ONE, 3), share_polynomial(3, ONE, 3)]
[(0, 7, 6, 1), (0, 0, 4, 1), (0, 0, 0, 1), (0, 0, 0, 8)]
>>> count_paper(3, ONE, 2, 2)
(4, 20, 8, 6)
"""),
    ('Stage 9: the other sort', ("deepcodes.canon.switched",), r"""
>>> [colefts((0, 2, 2), ONE), switched((2, 2, 2), ONE, 3), switched((2, 0, 2), ONE, 2)[0]]
[(((1, 1),), ((1, 0), (2, 1))), ('code', ((1, 1, 1), ((0, 0, 0), (1, 0, 1), (1, 0, 1)))), 'both']
>>> [is_switched((2, 2, 2), ONE, 3, ("both", (((0, 1), (1, 0)), ((1, 1), (2, 1))), ONE)), is_switched((2, 2, 2), ONE, 2, ("both", (((0, 1), (1, 0)), ((1, 1), (2, 1))), ONE))]
[True, False]
>>> [least_widths((0, 0, 0, 1, 1, 1, 0, 1)), width_answer((0, 1, 1, 0), 1, 1)[0], width_answer((0, 1, 1, 0), 2, 0)[0], is_width_answer((0, 1, 1, 1), 0, 1, ("input", (0, 0)))]
[(2, 2), 'input', 'terms', False]
>>> [grades((2, 2, 2), ONE), grades(FREE, DEEP), grades(SHUT, DEEP), stiff_number(3, ONE, 2, 2), stiff_number(3, ONE, 3, 3)]
[(2, 2, 2, 3), (3, 3, 4, 4), (3, 2, 3, 5), 2, 0]
"""),
    ('Stage 10: several formulas at once', ("deepcodes.several.several",), r"""
>>> BOTH = (DEEP, (((0, 1),), ((2, 1), (5, 0))))
>>> [turn_of(SHUT, BOTH, 3), turn_of(FREE, BOTH, 5), common_depth(FREE, BOTH, 2)]
[(0, ((1, 0), (2, 0), (3, 0))), None, 4]
>>> MARKED = common_code(FREE, BOTH, 2, 4)
>>> [MARKED, common_back(6, BOTH, MARKED) == FREE, common_answer(FREE, BOTH, 2, 5)[0]]
[((1, 1, 2, 2, 1, 1), ((0, ((0, 0, 0, 0), (1, 0, 1, 0))), (0, ((1, 0, 0, 0), (2, 0, 1, 0))))), True, 'tree']
"""),
    ('Stage 11: circuits and layers', ("deepcodes.circuits.circuits",), r"""
>>> PARTS = (("letter", 0, 1), ("letter", 0, 0), ("letter", 1, 1), ("letter", 1, 0), ("and", (0, 3)), ("and", (1, 2)), ("or", (4, 5)))
>>> [circuit_table(2, PARTS), circuit_depth(2, PARTS), not_of(2, PARTS)[6], circuit_value(2, PARTS, (1, 1)), circuit_depth(0, (("and", ()),))]
[(0, 1, 1, 0), 2, ('and', (4, 5)), 0, 1]
>>> pushed(2, (("letter", 0, 1), ("letter", 1, 1), ("letter", 1, 0), ("or", (0, 1)), ("or", (0, 3))))
(('letter', 0, 1), ('letter', 1, 1), ('or', (0, 1)))
>>> THREE = ("ands", ((((0, 1), (1, 1)), ((2, 1),)), (((0, 0),),)), (((0, 1),),))
>>> [layers_table(3, THREE), are_layers(3, ("ors", ((),), ())), layers_value(1, ("ors", ((),), ()), (0,)), are_layers_of(2, PARTS, ("ands", ((((0, 1), (1, 0)), ((0, 0), (1, 1))),), ()))]
[(0, 0, 0, 0, 1, 0, 1, 0), True, 1, True]
>>> layers_of(2, ())
raises InvalidCircuit
"""),
    ('Stage 12: layers led down', ("deepcodes.circuits.lowered",), r"""
>>> [bottom_of(3, THREE, 1), bottom_of(1, ("ors", ((((0, 1),),),), ()), 0), told_more((2, 0), 0), charge_of(3, THREE, (2, 2, 2), 3)]
[(((0, 0),),), (((0, 0),),), ((0, 0), (1, 0)), (0, ((1, 1, 1), ((0, 0, 0), (1, 0, 1), (0, 0, 1))))]
>>> [lowered(3, THREE, (2, 1, 2), 3), walk(3, THREE, (2, 1), (2, 2)), gates_at_least(10, 1, 1, 1)]
[('ors', ((((0, 1), (2, 1)), ((0, 0),)),), ()), ('tree', ((2, 0, 2), (2, 0, 0)), 0), 2]
>>> walk(1, ("ands", ((((0, 1),),),), ()), (1,), (1,))
('charged', (), ((0, ((1,), ((0, 0, 1),))),))
"""),
    ('Stage 13: wrong inputs', ("deepcodes.circuits.wrong",), r"""
>>> [wrong_input((1, 0, 2), 0), is_wrong_input((2, 0, 2), (2, 0, 1), (1, 0, 0)), wrong_number((2, 0, 2), (2, 0, 1), (0, 1, 1, 0, 1, 0, 0, 1))]
[(1, 0, 0), True, 2]
>>> [formula_answer(FREE, DEEP)[0], formula_answer((2, 2), (((0, 1), (1, 0)), ((0, 0), (1, 1)))), formula_answer((), ())]
['wrong', ('deep', ((1, 0), ((0, 0, 0), (1, 0, 1)))), ('deep', ((), ()))]
>>> [unlike_by((0, 1, 1, 0), 1, {(2, 2): (0, 1), (0, 2): (), (2, 1): ()}, (0, 0, 1)) in ((0, 1), (1, 1)), is_unlike((0, 1, 1, 0), (0, 0, 1), (0, 1))]
[True, True]
>>> [is_refuted(3, THREE, (2, 1), (2, 2), (((2, 0, 2), (2, 0, 0)), (1, 0, 0))), len(wrong_of(2, PARTS))]
[True, 0]
>>> wrong_input((2,), (0, 0, 1))
raises Refused(('deep',))
"""),
    ('Stage 14: formulas that tell the sum', ("deepcodes.sums.leastsum",), r"""
>>> [sum_formula(2), sum_coformula(2), sum_tree(2), sum_formula(0), sum_coformula(0)]
[(((0, 0), (1, 1)), ((0, 1), (1, 0))), (((0, 0), (1, 0)), ((0, 1), (1, 1))), (0, (1, 0, 1), (1, 1, 0)), (), ((),)]
>>> SHORT = (((0, 1),), ((0, 0), (1, 1), (2, 0)))
>>> [sum_answer(3, sum_formula(3)), is_sum_answer(3, SHORT, ("wrong", (1, 1, 0))), is_sum_answer(3, SHORT, ("wrong", (1, 0, 0))), wrong_number(3, SHORT)]
[('sum', 4), True, False, 3]
>>> [is_apart(3, SHORT), tree_answer(2, sum_tree(2)), tree_answer(2, (0, 0, 1))[0], cosum_answer(2, sum_coformula(2))]
[True, ('sum', 4), 'wrong', ('sum', 2)]
>>> sum_formula(8)
raises InvalidNumber(8)
"""),
    ('Stage 15: circuits for the sum, by blocks', ("deepcodes.sums.blocks",), r"""
>>> [members_of(10, (3, 4)), blocks_number(10, (3, 4)), blocks_number(10, (10,)), blocks_number(9, least_sizes(9, 2)), is_sizes(3, (3, 2)), is_sizes(1, ())]
[(10, 4, 1), 59, 533, 53, False, True]
>>> [is_least_sizes(10, 2, (3, 4)), is_least_sizes(5, 2, (2, 3)), is_least_sizes(4, 4, (2, 2, 2, 2)), is_sum_circuit(2, (2,), PARTS)]
[True, True, False, True]
>>> [blocks_number(6, (2, 3)), is_sum_circuit(6, (2, 3), sum_circuit(6, (2, 3))), tells_sum(2, PARTS), gates_needed(2, PARTS)]
[35, True, True, (3, 3)]
>>> least_sizes(4, 4)
raises Refused(('none',))
"""),
    ('Stage 16: waves', ("deepcodes.letters.rows", "deepcodes.waves.waves"), r"""
>>> AND = (0, 0, 0, 1)
>>> [waves(AND), weights(AND), degree(AND), wave(sum_table(3), (0, 1, 2))]
[{(): 2, (0,): 2, (0, 1): -2, (1,): 2}, (4, 8, 4), 2, 8]
>>> [waves_under((2, 1), AND), waves_under((2, 0), AND), keeping(4, 3, 2, 1), deep_weight(AND, 1, 1), deep_number(AND, 1, 1), weight_paper(AND, 1, 1)]
[{(): 0, (0,): 2}, {(): 2, (0,): 0}, 6, 16, 2, ((0, 0), (1, 4), (0, 0), (1, 4))]
>>> [degree_answer(AND, 3), is_degree_answer(AND, 1, ("deep", (2, 1))), is_degree_answer(AND, 1, ("deep", (2, 0)))]
[('low',), True, False]
>>> wave(AND, (1, 0))
raises InvalidOperation
"""),
    ('Stage 17: turns', ("deepcodes.waves.turns",), r"""
>>> BOTH, SOME, ODD = (0, 0, 0, 1), (0, 1, 1, 1), (0, 1, 1, 0)
>>> [turns_at(BOTH, (1, 1)), turn_counts(BOTH), turn_counts(SOME), turn_number(ODD), wrong_inputs(BOTH), border_number(BOTH), border_number(ODD)]
[(0, 1), (2, 2), (2, 2), 8, ((1, 0), (0, 1), (1, 1)), 2, 0]
>>> [least_wrong(4, 1, 8), least_wrong(3, 3, 4), way_sum(2, (0, 0, (1, 0, 1))), turns_under(ODD, 1), turns_under(BOTH, 2)]
[6, 0, 6, 8, 4]
>>> [width_answer(ODD, 1)[0], width_answer(ODD, 2)[0], is_width_answer(BOTH, 2, ("formula", (((0, 1), (1, 1)),))), is_width_answer(BOTH, 1, ("input", (1, 1))), is_width_answer(BOTH, 1, ("input", (1, 0)))]
['input', 'formula', True, True, False]
>>> turns_at(BOTH, (1,))
raises InvalidInput
"""),
    ('Stage 18: bushes that shrink', ("deepcodes.small.shrink",), r"""
>>> TWICE, CUT = ("or", ("and", (0, 1), (1, 1)), ("and", (0, 1), (2, 1))), ("and", (0, 1), ("or", (0, 1), (1, 1)))
>>> [leaves(3, TWICE), nice_answer(3, TWICE), nice_answer(2, CUT), nice_bush(2, CUT), told_letter(3, TWICE, 1, 0)]
[((0, 1), (1, 1), (0, 1), (2, 1)), ('nice',), ('cut', ()), (0, 1), ('and', (0, 1), (2, 1))]
>>> [taken(3, TWICE), best_setting(3, TWICE), [least_leaves(n) for n in (1, 2, 3, 4, 5)], len(leaves(4, sum_bush(4))), led_answer(1, 0), is_led(2, (0, 1), (((0, 1),), (1, 1)))]
[((4, 2), (2, 1), (2, 1)), (0, 0), [1, 4, 8, 13, 19], 16, ((), (1,)), True]
>>> led_answer(2, sum_bush(2))
raises Refused(('leaves', 4))
"""),
    ('Stage 19: neighbours parted by leaves', ("deepcodes.small.rects",), r"""
>>> ODD = ("or", ("and", (0, 1), (1, 0)), ("and", (0, 0), (1, 1)))
>>> [leaf_parts(2, ODD, (1, 2), (0, 3)), leaf_marks(2, ODD, (1, 2), (0, 3)), neighbour_count(2, (1, 2), (0, 3)), leaves_at_least(2, (1, 2), (0, 3))]
[(((1,), (0,)), ((1,), (3,)), ((2,), (3,)), ((2,), (0,))), ((1, 1, 1), (1, 1, 1), (1, 1, 1), (1, 1, 1)), 4, 4]
>>> [rect_paper((0, 1, 1, 0)), is_rect_paper((0, 1, 1, 0), ("leaves", (1,), (0, 3), 2)), sum_bounds(3), leaves_at_least(3, (1, 2, 4, 7), (0, 3, 5, 6))]
[('leaves', (1, 2), (0, 3), 4), True, (9, 10), 9]
"""),
    ('Stage 20: thirds', ("deepcodes.small.thirds",), r"""
>>> BOTH = (("letter", 0, 1), ("letter", 1, 1), ("or", (0, 1)), ("and", (0, 1)))
>>> [polynomial_of(2, (0, 1, 1, 0)), agreeing(2, {(0,): 1}), most_agreeing(4, 1), table_of(2, BOTH)]
[{(0,): 1, (0, 1): 1, (1,): 1}, ((0, 0), (1, 0)), 11, (0, 0, 0, 1)]
>>> LONE = ((), (), ((1, 1),), ((1, 1),))
>>> [polynomials(2, BOTH, LONE)[2], charged(2, BOTH, LONE), are_good(2, BOTH, 1, LONE)]
[{(0,): 1, (0, 1): 2, (1,): 1}, ((), (), (), ()), True]
"""),
    ('Stage 21: the checker', ("deepcodes.judge.judge", "deepcodes.judge.answers"), r"""
>>> CLAIM = ("low", SHUT, DEEP, 5)
>>> [opposite(CLAIM)[0], is_claim(("low", SHUT, DEEP, 11)), answered(CLAIM)[0][0], answered(("low", FREE, DEEP, 5))[0][0]]
['deep', False, 'deep', 'low']
>>> [takes(("deep", SHUT, DEEP, 5), answered(CLAIM)[1]), takes(("deep", FREE, DEEP, 4), ((1, 1, 2, 2, 1, 1), ((0, 0, 0), (1, 0, 1), (1, 0, 0), (2, 0, 1)))), takes(("low", (2,), (((0, 1),),), 2), (0, 0, 1))]
[True, True, True]
>>> [answered(("some", 3, ONE, 2, 2))[0][0], answered(("asked", (0, 1, 1, 0), 1))[0][0], answered(("narrow", (0, 1, 1, 0), 1, 1))[0][0], answered(("sums", 2, PARTS)) == (("sums", 2, PARTS), ())]
['some', 'open', 'wide', True]
>>> opposite(("sums", 11, PARTS))
raises InvalidClaim
"""),
    ('Stage 22: texts, and a bench', ("deepcodes.use.texts",), r"""
>>> [formula_text(3, (((0, 1), (2, 0)), ())), restriction_text((2, 0, 1)), tree_text(3, (0, (2, 0, 1), 1)), read_formula(1, "")]
['+0 -2\ntrue\n', '*01\n', 'ask 0\nask 2\n0\n1\n1\n', ()]
>>> [circuit_text(2, PARTS[:2] + (("or", (0, 1)), ("and", ()))), read_code("*1\n0 1 1\n")]
['letter 0 1\nletter 0 0\nor 0,1\nand -\n', ((2, 1), ((0, 1, 1),))]
>>> read_tree(2, "ask 0\nask 0\n")
raises ParseError(1)
"""),
    ('Stage 22: texts, and a bench', ("deepcodes.use.bench",), r"""
>>> B = Bench(4)
>>> [B.tell(line) for line in ("term +0,+1", "term -1,+3", "put 0 -2", "depth", "tell 2 1", "depth", "code 2", "value 1100")]
['1 terms, width 2', '2 terms, width 2', '3 terms, width 2', 'depth 4', '3 free letters', 'depth 3', 'code 111* 0.0.0 1.0.1', '1']
>>> [B.tell("drop 1"), B.tell("undo"), len(B), B.restriction, str(B)]
['2 terms, width 2', 'undone', 3, (2, 2, 1, 2), 'bench of 4 letters, 3 terms']
>>> B.tell("tell 2 0")
raises InvalidOperation
>>> B.tell("term +4")
raises ParseError(1)
"""),
)


def steps(text):
    """The pairs of a statement and of the line that tells its result, None without one."""
    found = []
    for line in text.strip().split("\n"):
        if line.startswith(">>> "):
            found.append((line[4:], None))
        else:
            found[-1] = (found[-1][0], line)
    return found


class TestExamples(unittest.TestCase):
    def test_examples(self):
        told = {}
        for title, modules, text in BLOCKS:
            # Some modules have functions of one name, so each block sees those of its own.
            names = {}
            for module in modules:
                names.update(vars(importlib.import_module(module)))
            for statement, wanted in steps(text):
                with self.subTest(title, statement=statement):
                    self.check({**names, **told}, told, statement, wanted)

    def check(self, names, told, statement, wanted):
        if wanted is None:
            exec(statement, names, told)
        elif wanted.startswith("raises "):
            self.check_error(names, statement, wanted[len("raises "):])
        else:
            self.assertEqual(repr(eval(statement, names)), wanted)

    def check_error(self, names, statement, wanted):
        with self.assertRaises(errors.DeepError) as caught:
            eval(statement, names)
        name, _, value = wanted.partition("(")
        self.assertIs(type(caught.exception), getattr(errors, name))
        if value:
            self.assertEqual(list(vars(caught.exception).values()), [eval(value[:-1])])

    def test_counted(self):
        self.assertEqual(len(BLOCKS), 24)
        raised = [wanted for _, _, text in BLOCKS for _, wanted in steps(text) if wanted and wanted.startswith("raises")]
        self.assertEqual(len(raised), 18)


if __name__ == "__main__":
    unittest.main()
