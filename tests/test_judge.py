import ast
import itertools
import pathlib
import random
import unittest

import reference
import support
from deepcodes import errors
from deepcodes.canon import codes, switched
from deepcodes.circuits import circuits, lowered
from deepcodes.judge import answers, judge
from deepcodes.letters import rows
from deepcodes.sums import blocks
from deepcodes.trees import least

CHANCE = random.Random(2121)
FOLDER = pathlib.Path(judge.__file__).resolve().parent
DEEP = (((0, 1), (1, 1)), ((1, 1), (2, 1), (3, 1)), ((1, 0), (4, 1), (5, 1)))
FREE, SHUT = (2,) * 6, (0, 2, 2, 2, 2, 2)
ONE = (((0, 1), (1, 1)), ((1, 0), (2, 1)))
PARTS = (
    ("letter", 0, 1), ("letter", 0, 0), ("letter", 1, 1), ("letter", 1, 0), ("and", (0, 3)), ("and", (1, 2)),
    ("or", (4, 5)),
)
THREE = ("ands", ((((0, 1), (1, 1)), ((2, 1),)), (((0, 0),),)), (((0, 1),),))
# The first lot comes to all 64 clauses of six letters, and to sixteen of five.
WIDE = (
    "ands",
    tuple(tuple(tuple(enumerate(row)) for row in reference.inputs(n) if sum(row) % 2 == b) for n, b in ((6, 1), (6, 0), (5, 1))),
    (((0, 1, 2),),),
)
OTHERS = {
    "low": "deep", "some": "none", "asked": "open", "narrow": "wide", "led": "stuck", "sums": "errs"
}
OPPOSITES = {**OTHERS, **{other: word for word, other in OTHERS.items()}}
CLAIMS = [
    ("low", SHUT, DEEP, 5), ("low", (), (), 0), ("deep", (2, 0), (((0, 1),),), 1), ("some", 3, ONE, 2, 2),
    ("none", 0, ((),), 0, 1), ("asked", (0, 1, 1, 0), 1), ("open", (1,), 0), ("narrow", (0, 1, 1, 0), 1, 1),
    ("wide", (0,), 0, 10), ("led", 3, THREE, (2, 1), (2, 2)), ("stuck", 1, ("ors", ((((0, 1),),),), ()), (1,), (1,)),
    ("sums", 2, PARTS), ("errs", 0, (("and", ()),)),
]

# Those of the junk that are claims.
JUNK_CLAIMS = [
    ("low", (), (), 0), ("low", (2,), (((0, 1),),), 1), ("some", 0, (), 0, 0), ("none", 0, (), 0, 1), ("asked", (0,), 0),
    ("open", (0, 1), 0), ("narrow", (0, 1), 1, 0), ("led", 0, ("ands", ((),), ()), (0,), (1,)),
    ("sums", 0, (("and", ()),)), ("errs", 1, (("letter", 0, 1),)),
]


def wrong_claims():
    """Values that are no claims, among them claims with each part exchanged by a wrong one."""
    found = [value for value in support.JUNK if not any(value == claim for claim in JUNK_CLAIMS)]
    number, restriction = support.number, support.any_restriction
    for word in ("low", "deep"):
        found += parts_wrong((word, (2, 0, 2), ONE, 2), restriction((2, 0, 2)), support.formula(3, ONE), number(2, 0, 10))
    for word in ("some", "none"):
        found += parts_wrong((word, 3, ONE, 2, 2), support.letters(3), support.formula(3, ONE), number(2, 0, 3),
                             number(2, 0, 10))
    for word in ("asked", "open"):
        found += parts_wrong((word, (0, 1, 1, 0), 1), support.table((0, 1, 1, 0), 8), number(1, 0, 10))
    for word in ("narrow", "wide"):
        found += parts_wrong((word, (0, 1, 1, 0), 1, 1), support.table((0, 1, 1, 0), 8), number(1, 0, 1),
                             number(1, 0, 10))
    free = support.Argument((2, 1), None, support.NO_TUPLES + [(2,), (1, 2), (4, 1), (2, -1), (True, 1), (2, 1, 1)])
    depths = support.Argument((2, 2), None, support.NO_TUPLES + [(2,), (0, 1), (11, 1), (2, 2, 2), (True, 1), (2, None)])
    for word in ("led", "stuck"):
        found += parts_wrong((word, 3, THREE, (2, 1), (2, 2)), number(3, 0, 6), support.layers(3, THREE), free, depths)
        found += [(word, 7, ("ands", ((),), ()), (0,), (1,))]
        for value in support.layers(3, THREE).wrong:
            # With as many numbers as there would be rounds.
            if isinstance(value, tuple) and len(value) == 3 and isinstance(value[2], (tuple, list)):
                found.append((word, 3, value, (0,) * (1 + len(value[2])), (1,) * (1 + len(value[2]))))
    for word in ("sums", "errs"):
        found += parts_wrong((word, 2, PARTS), support.letters(2), support.circuit(2, PARTS))
        found += parts_wrong((word, 2, (("and", ()),)), support.letters(2), support.circuit(2, (("and", ()),)))
    for claim in CLAIMS:
        found += [list(claim), claim[:-1], (*claim, ()), (*claim, claim[-1]), (None, *claim[1:]), ([], *claim[1:])]
        found += [(claim[0] + "s", *claim[1:]), (claim[0].upper(), *claim[1:]), ((claim[0],), *claim[1:]), claim[1:]]
        found += [value for value in support.disguised(claim) if not isinstance(value, list)]
    many = tuple(reference.random_term(CHANCE, 10, 3) for _ in range(64))
    return found + [("some", 10, many[:4], 3, 2), ("none", 10, many[:63], 7, 2), ("some", 10, many[:8], 5, 2)]


def parts_wrong(claim, *arguments):
    for at, argument in enumerate(arguments, 1):
        yield from ((*claim[:at], value, *claim[at + 1:]) for value in argument.wrong)


WRONG = wrong_claims()


def beginnings(restriction, formula, s):
    """The codes along all beginnings of s literals."""
    found = [row for row in reference.beginnings(restriction, formula) if len(row) == s]
    return [reference.code(restriction, formula, row) for row in found]


def code_wrong(code):
    """Codes that are almost this one."""
    first, triples = code
    found = [(first, triples + ((0, 0, 1),)), (triples, first), (first,), (first, triples, ())]
    found += [((*first[:at], 2, *first[at + 1:]), triples) for at, member in enumerate(first) if member != 2]
    found += [((*first[:at], 1 - member, *first[at + 1:]), triples) for at, member in enumerate(first) if member != 2]
    for at, (place, answer, end) in enumerate(triples):
        for triple in ((place + 1, answer, end), (place - 1, answer, end), (place, answer, 1 - end), (place, 2, end),
                       (place, answer), (place, answer, end, 0)):
            found.append((first, (*triples[:at], triple, *triples[at + 1:])))
    return found + ([(first, triples[:-1])] if triples else [])


class TestClaims(support.Case):
    """[21.1]"""

    def test_claims(self):
        for claim in CLAIMS:
            for value in (claim, (OPPOSITES[claim[0]], *claim[1:])):
                self.assertIs(judge.is_claim(value), True)
                self.assertEqual(judge.opposite(value), (OPPOSITES[value[0]], *claim[1:]))
                self.assertEqual(judge.opposite(judge.opposite(value)), value)

    def test_others(self):
        for value in WRONG:
            self.assertIs(judge.is_claim(value), False, value)
        for value in support.JUNK:
            self.assertIs(type(judge.is_claim(value)), bool)

    def test_bounds(self):
        term = ((0, 1),)
        table = rows.sum_table(8)
        layers = ("ands", ((),), ())
        great = ("ands", ((),) * 60, ((tuple(range(60)),) + ((),) * 59, (tuple(range(60)),)))
        right = [
            ("low", (2,) * 10, (term,) * 64, 10), ("deep", (), (), 0), ("some", 10, (term,) * 3, 3, 0),
            ("none", 10, (), 3, 10), ("some", 10, (term,) * 7, 5, 0), ("none", 10, (term,) * 58, 0, 1),
            ("some", 10, (term,) * 64, 10, 1), ("asked", table, 10), ("open", table, 0), ("narrow", table, 0, 10),
            ("wide", (1,), 1, 0), ("led", 6, layers, (6,), (10,)), ("stuck", 0, layers, (0,), (1,)),
            ("sums", 10, (("letter", 9, 0),)), ("errs", 0, (("or", ()),) * 120),
            ("errs", 0, (("or", ()),) * 64 + (("and", tuple(range(64))),)),
            ("led", 0, ("ors", ((),), (((0,),),) * 6), (0,) * 7, (1,) * 7), ("stuck", 0, great, (0, 0, 0), (1, 1, 1)),
            ("led", 1, ("ors", ((term,) * 64,), ()), (0,), (1,)),
        ]
        wrong = [
            ("low", (2,) * 11, (), 1), ("deep", (), (), 11), ("some", 10, (term,) * 4, 3, 0), ("some", 10, (), 11, 0),
            ("none", 10, (term,) * 8, 5, 1), ("none", 10, (term,) * 59, 0, 1), ("asked", rows.sum_table(9), 1),
            ("open", table, 11), ("narrow", table, 2, 10), ("wide", rows.sum_table(9), 1, 0), ("led", 7, layers, (6,), (1,)),
            ("stuck", 6, layers, (7,), (1,)), ("led", 6, layers, (6,), (11,)), ("led", 6, layers, (6,), (0,)),
            ("sums", 11, (("letter", 9, 0),)), ("errs", 0, (("or", ()),) * 121), ("low", (2,), (((1, 1),),), 1),
        ]
        # As many restrictions as at least one term each comes to.
        self.assertEqual([15360 * 3, 8064 * 7, 1024 * 58], [46080, 56448, 59392])
        for value in right:
            self.assertIs(judge.is_claim(value), True, value)
        for value in wrong:
            self.assertIs(judge.is_claim(value), False, value)

    def test_errors(self):
        for function in (judge.opposite, answers.answered, lambda value: judge.takes(value, ())):
            for value in WRONG:
                self.refuses(errors.InvalidClaim, None, function, value)

    def test_papers_are_values(self):
        """Every value is a paper that is judged."""
        for claim in CLAIMS:
            for value in (claim, judge.opposite(claim)):
                for paper in support.JUNK + [claim, errors.InvalidClaim]:
                    self.assertIs(type(judge.takes(value, paper)), bool)

    def test_what_it_imports(self):
        """Only `answers` needs more than errors and the files of the checker."""
        for path in sorted(FOLDER.glob("*.py")):
            if path.name != "answers.py":
                for node in ast.walk(ast.parse(path.read_text(encoding="utf-8"))):
                    self.assertNotIsInstance(node, ast.Import)
                    if isinstance(node, ast.ImportFrom):
                        ok = node.module == "deepcodes.errors" or node.module.startswith("deepcodes.judge.")
                        self.assertTrue(ok and node.module != "deepcodes.judge.answers", (path, node.module))


class Papers(support.Case):
    """Checks of a claim and its opposite: just one has papers, and is told."""

    def settles(self, claim, right, wrong=(), truth=None):
        """The right papers are of the true one of the claim and its opposite."""
        other = judge.opposite(claim)
        told, paper = answers.answered(claim)
        self.assertEqual((told, paper), answers.answered(other))
        true, false = (claim, other) if truth in (None, True) else (other, claim)
        self.assertEqual(told, true)
        self.assertIs(judge.takes(true, paper), True, (true, paper))
        for value in right:
            self.assertIs(judge.takes(true, value), True, (true, value))
            for bad in support.disguised(value):
                self.assertIs(judge.takes(true, bad), False, (true, bad))
        for value in [paper, *right, *wrong]:
            self.assertIs(judge.takes(false, value), False, (false, value))
        for value in wrong:
            self.assertIs(judge.takes(true, value), False, (true, value))
        return paper


class TestCanon(Papers):
    """[21.2] "low", "deep", "some", "none" """

    def test_low_and_deep(self):
        for n in range(4):
            for formula in reference.some_formulas(n, 8, 81):
                for restriction in reference.restrictions(n):
                    tree = reference.canonical(restriction, formula)
                    depth = reference.depth(tree)
                    for s in (*range(n + 2), 10):
                        claim = ("low", restriction, formula, s)
                        if depth < s:
                            wrong = [other for other in (0, 1, (0, tree, tree), None, (restriction, ())) if other != tree]
                            self.settles(claim, [tree], wrong, True)
                        else:
                            every = beginnings(restriction, formula, s)
                            wrong = [bad for code in every[:2] for bad in code_wrong(code)]
                            self.settles(claim, every[:4] + every[-1:], [w for w in wrong if w not in every], False)

    def test_as_the_stages_tell(self):
        """The checker and the stages 6 and 7 judge alike."""
        for n in (2, 3):
            every = [
                (first, triples)
                for first in reference.restrictions(n) for many in range(3)
                for triples in itertools.product(itertools.product(range(2), (0, 1), (0, 1)), repeat=many)
            ]
            for formula in reference.some_formulas(n, 4, 82):
                for restriction in CHANCE.sample(reference.restrictions(n), 3):
                    for s in range(3):
                        for code in CHANCE.sample(every, 60):
                            wanted = codes.is_canon_answer(restriction, formula, s, ("code", code))
                            self.assertIs(judge.takes(("deep", restriction, formula, s), code), wanted)

    def test_some_and_none(self):
        for n in range(4):
            for formula in reference.some_formulas(n, 8, 83):
                for free, s in itertools.product(range(n + 1), (*range(n + 2), 10)):
                    every = reference.with_free(n, free)
                    trees = [(r, reference.canonical(r, formula)) for r in every]
                    low = [(r, tree) for r, tree in trees if reference.depth(tree) < s]
                    claim = ("some", n, formula, free, s)
                    if low:
                        wrong = [(r, tree) for r, tree in trees if (r, tree) not in low]
                        wrong += [(r, reference.canonical(r, formula)) for r in reference.restrictions(n) if r not in every]
                        wrong += [(low[0][0], other) for other in (0, 1, (0, 0, 1)) if other != low[0][1]]
                        wrong += [low[0][0], low[0][1], (*low[0], 0)]
                        self.settles(claim, low[:3], wrong, True)
                    else:
                        self.check_none(claim, [beginnings(r, formula, s) for r in every])

    def check_none(self, claim, several):
        right = [tuple(CHANCE.choice(some) for some in several) for _ in range(2)]
        wrong = [right[0][:-1], (*right[0], right[0][-1])]
        wrong += [right[0][::-1]] if right[0][::-1] != right[0] else []
        at = CHANCE.randrange(len(several))
        bad = [code for code in code_wrong(right[0][at]) if code not in several[at]]
        wrong += [(*right[0][:at], code, *right[0][at + 1:]) for code in bad]
        self.settles(claim, right, wrong, False)

    def test_great_ones(self):
        formula = tuple(reference.random_term(CHANCE, 10, 4) for _ in range(64))
        for s in (3, 10):
            told, paper = answers.answered(("low", (2,) * 10, formula, s))
            self.assertIs(judge.takes(told, paper), True)
            self.assertIs(judge.takes(judge.opposite(told), paper), False)
        for claim in (("none", 10, formula[:7], 5, 1), ("some", 10, formula[:3], 3, 3), ("none", 10, formula, 10, 2)):
            told, paper = answers.answered(claim)
            self.assertIs(judge.takes(told, paper), True)


class TestTables(Papers):
    """[21.2] "asked", "open", "narrow", "wide" """

    def test_asked_and_open(self):
        for n in range(3):
            every = reference.trees(list(range(n)), n)
            for table in reference.tables(n):
                for depth in (*range(n + 2), 10):
                    claim = ("asked", table, depth)
                    right = [
                        tree for tree in every if reference.depth(tree) <= depth
                        and reference.table_by(n, lambda row: reference.tree_value(tree, row)) == table
                    ]
                    wrong = [tree for tree in every if tree not in right]
                    wrong += [(letter, tree, tree) for letter in (-1, n, n + 1, 10 ** 30) for tree in right[:1]]
                    if right:
                        plan = {(2,) * n: ()}
                        self.settles(claim, right[:5], CHANCE.sample(wrong, min(9, len(wrong))) + wrong[-4:] + [plan], True)
                    else:
                        plan = self.settles(claim, [], CHANCE.sample(wrong, min(9, len(wrong))), False)
                        self.settles(claim, [plan, dict(reversed(plan.items()))], self.plans_wrong(plan), False)

    def plans_wrong(self, plan):
        found = [list(plan.items()), tuple(plan.items()), {}, ("plan", plan)]
        for key, told in plan.items():
            found += [{k: plan[k] for k in plan if k != key}, {**plan, key: (*told, 2)}, {**plan, key: None}]
            found += [{**plan, key: (*told[:at], 3, *told[at + 1:])} for at in range(len(told))]
            found += [{**plan, key: (*told[:at], 2, *told[at + 1:])} for at in range(len(told)) if told[at] != 2]
            found += [{**plan, key: (*told[:at], 0, *told[at + 1:])} for at in range(len(told)) if told[at] == 2]
            found += [{**plan, (*key, 2): told}, {**plan, None: told}]
        return found

    def test_three_letters_told(self):
        """Plans whose rows have told letters."""
        most = reference.table_by(3, lambda row: int(sum(row) > 1))
        for table, depth in ((rows.sum_table(3), 2), (most, 2), (rows.sum_table(3), 1)):
            plan = self.settles(("asked", table, depth), [], [], False)
            self.settles(("open", table, depth), [plan], self.plans_wrong(plan))
            for key, told in plan.items():
                for at, member in enumerate(told):
                    for other in {0, 1, 2, 3, -1} - {member}:
                        value = {**plan, key: (*told[:at], other, *told[at + 1:])}
                        wanted = least.is_plan(table, depth, value)
                        self.assertIs(judge.takes(("open", table, depth), value), wanted)

    def test_all_plans(self):
        """Plans of two letters, whatever rows they have."""
        some = [None, (0, 1), (1, 1), (2, 0), (2, 1), (0, 2), (1, 2), ()]
        keys = [(2, 2), (0, 2), (1, 2), (2, 0), (2, 1)]
        for table in ((0, 1, 1, 0), (0, 0, 0, 1), (0, 0, 1, 1)):
            for depth in (0, 1, 2):
                for _ in range(400):
                    plan = {key: CHANCE.choice(some) for key in keys}
                    plan = {key: told for key, told in plan.items() if told is not None}
                    wanted = least.is_plan(table, depth, plan)
                    self.assertIs(judge.takes(("open", table, depth), plan), wanted)
                for first in some:
                    for plan in ({(2, 2): first, (0, 2): (), (2, 1): ()}, {(2, 2): first, (1, 2): (), (2, 1): ()}):
                        wanted = least.is_plan(table, depth, plan)
                        self.assertIs(judge.takes(("open", table, depth), plan), wanted)
        self.assertIs(judge.takes(("open", (0, 1, 1, 0), 1), {(2, 2): (0, 1), (0, 2): (), (2, 1): ()}), True)

    def test_keys_that_are_none(self):
        plan = {(2, 2): (0, 1), (0, 2): (), (2, 1): ()}
        for key in ((False, 2), "02", (0, 3), (2,), (0, 0), (1, 1), (0, 2, 2), None, 2, (0, (2,))):
            wrong = {**{k: plan[k] for k in plan if k != (0, 2)}, key: ()}
            self.assertIs(judge.takes(("open", (0, 1, 1, 0), 1), wrong), False)
            if key != (0, 2):
                self.assertIs(judge.takes(("open", (0, 1, 1, 0), 1), {**plan, key: ()}), False)

    def test_greatest_tables(self):
        odd = rows.sum_table(8)
        for depth in (0, 3, 7, 8, 10):
            told, paper = answers.answered(("asked", odd, depth))
            self.assertEqual(told[0], "asked" if depth >= 8 else "open")
            self.assertIs(judge.takes(told, paper), True)
            self.assertIs(judge.takes(judge.opposite(told), paper), False)
        for table in (odd, tuple(CHANCE.randrange(2) for _ in range(256))):
            for bit, width in itertools.product((0, 1), (0, 4, 7, 8, 10)):
                told, paper = answers.answered(("narrow", table, bit, width))
                self.assertIs(judge.takes(told, paper), True)
                self.assertEqual(told[0] == "narrow", width >= switched.least_widths(table)[1 - bit])

    def test_narrow_and_wide(self):
        for n in range(3):
            every = [some for many in range(3) for some in itertools.product(reference.terms(n), repeat=many)]
            for table in reference.tables(n):
                for bit, width in itertools.product((0, 1), (*range(n + 2), 10)):
                    read = reference.formula_table if bit else reference.coformula_table
                    inputs = [
                        row for row in reference.inputs(n)
                        if reference.value(table, row) == bit and reference.certificate_size(table, row) > width
                    ]
                    some = [one for one in every if read(n, one) == table and reference.width(one) <= width]
                    wrong = [one for one in CHANCE.sample(every, min(20, len(every))) if one not in some]
                    wrong += [row for row in reference.inputs(n) if row not in inputs + some]
                    claim = ("narrow", table, bit, width)
                    self.settles(claim, inputs or some[:4], wrong, not inputs)

    def test_long_formulas(self):
        for many, wanted in ((1024, True), (1025, False)):
            for bit in (0, 1):
                self.assertIs(judge.takes(("narrow", (0, 1, 0, 1), bit, 1), (((0, 1),),) * many), wanted)

    def test_three_letters(self):
        for table in CHANCE.sample(reference.tables(3), 40):
            for bit, width in itertools.product((0, 1), range(4)):
                inputs = [
                    row for row in reference.inputs(3)
                    if reference.value(table, row) == bit and reference.certificate_size(table, row) > width
                ]
                wrong = [row for row in reference.inputs(3) if row not in inputs]
                self.settles(("narrow", table, bit, width), inputs, wrong, not inputs)


class TestWalks(Papers):
    """[21.2] "led", "stuck" """

    def charges(self, layers, restriction, s):
        """All charges, with the codes along any beginnings."""
        found = []
        for gate, formula in enumerate(reference.bottoms(layers)):
            found += [(gate, code) for code in beginnings(restriction, formula, s)]
        return found

    def papers(self, n, layers, free, depths, most=64):
        """The word, the rounds with lists of all right charges, and the tree or such lists at last; None by the limit."""
        here, rounds = (2,) * n, []
        for many, s in zip(free, depths):
            ahead = []
            for restriction in reference.behind_all(here, many):
                if not reference.deep_gates(layers, restriction, s):
                    break
                ahead.append(self.charges(layers, restriction, s))
            else:
                return "stuck", rounds, ahead
            here = restriction
            rounds.append((ahead, here))
            if layers[2]:
                layers = reference.lowered(layers, here)
                if max(len(formula) for formula in layers[1]) > most:
                    return None
        tree = reference.canonical(here, reference.bottom(layers, 0))
        return "led", rounds, tree if layers[0] == "ands" else reference.swapped_ends(tree)

    def chosen(self, some):
        return tuple(CHANCE.choice(every) for every in some)

    def paper(self, word, rounds, last):
        told = tuple((self.chosen(ahead), here) for ahead, here in rounds)
        return (told, last if word == "led" else self.chosen(last))

    def wrong_papers(self, n, paper):
        told, last = paper
        found = [(told[:-1], last), ((*told, ((), (2,) * n)), last), (told, last, ()), (last, told), told, last, None]
        for at, (charges, here) in enumerate(told):
            ahead, behind = told[:at], told[at + 1:]
            rounds = [(charges[:-1], here), (charges, (2,) * n), (here, charges), (charges,), (charges, here, 0)]
            rounds += [((*charges, charges[-1]), here)] if charges else [(((0, (here, ())),), here)]
            rounds += [(charges, other) for other in reference.with_free(n, here.count(2)) if other != here]
            rounds += [((*charges[:-1], (1 - charges[-1][0], charges[-1][1])), here)] if charges else []
            if charges:
                gate, code = charges[-1]
                rounds += [((*charges[:-1], (gate, bad)), here) for bad in code_wrong(code)]
                rounds += [((*charges[:-1], (other, code)), here) for other in (-1, gate - 4, gate + 4, None)]
            above = told[at - 1][1] if at else (2,) * n
            looked_at = reference.behind_all(above, here.count(2))
            # A restriction that is charged is no good one, and behind the good one nothing is charged.
            rounds += [(charges[:many], looked_at[many]) for many in range(len(charges))]
            rounds += [((*charges, *charges[-1:]), other) for other in looked_at[len(charges) + 1:][:1]]
            found += [((*ahead, one, *behind), last) for one in rounds if one != (charges, here)]
        return found

    def some_walks(self, many=60):
        formula = (((0, 1), (1, 1)), ((2, 1),))
        yield 3, ("ands", (formula, formula), (((0, 1),),)), (2, 2), (2, 1)
        yield 3, ("ors", (formula,), (((0,), (0,)), ((0, 1),))), (2, 2, 1), (2, 1, 1)
        # The letters of a way do not ascend, those of its clause do.
        formula = (((2, 1),), ((0, 1),), ((1, 0),))
        for word in ("ands", "ors"):
            yield 3, (word, (formula,), (((0,),),)), (3, 3), (4, 4)
            yield 3, (word, (formula, (((1, 1),), ((0, 0),))), (((0, 1), (1,)), ((0, 1),))), (3, 3, 3), (4, 4, 4)
        for n in range(4):
            for _ in range(many):
                layers = reference.random_layers(CHANCE, n, CHANCE.choice((1, 2, 2, 3)))
                count = 1 + len(layers[2])
                free = tuple(sorted((CHANCE.randint(0, n) for _ in range(count)), reverse=True))
                yield n, layers, free, tuple(CHANCE.choice((1, 1, 2, 3)) for _ in range(count))

    def test_led_and_stuck(self):
        kinds = set()
        for n, layers, free, depths in self.some_walks():
            word, rounds, last = self.papers(n, layers, free, depths)
            claim = ("led", n, layers, free, depths)
            right = [self.paper(word, rounds, last) for _ in range(2)]
            every = self.every_paper(word, rounds, last)
            wrong = [paper for paper in self.wrong_papers(n, right[0]) if not every(paper)]
            if word == "led":
                wrong += [(right[0][0], other) for other in (0, 1, (0, 0, 1)) if other != last]
            elif last:
                charges = right[0][1]
                wrong += [(right[0][0], bad) for bad in (charges[:-1], (*charges, charges[0]), ())]
                codes_wrong = [(charges[-1][0], bad) for bad in code_wrong(charges[-1][1])]
                codes_wrong += [(gate, charges[-1][1]) for gate in (-1, -2, 9, None)]
                wrong += [(right[0][0], (*charges[:-1], bad)) for bad in codes_wrong if bad not in last[-1]]
                # It is not led on from a restriction that is charged.
                above = right[0][0][-1][1] if right[0][0] else (2,) * n
                looked_at = reference.behind_all(above, free[len(right[0][0])])
                for many, restriction in enumerate(looked_at):
                    rounds_on = (*right[0][0], (charges[:many], restriction))
                    wrong += [(rounds_on, tree) for tree in (0, 1)] + [(rounds_on, ())]
            self.settles(claim, right[:1], wrong, word == "led")
            self.settles(claim, right, [], word == "led")
            kinds.add((word, len(rounds), any(ahead for ahead, _ in rounds)))
        for kind in (("led", 1, False), ("led", 2, True), ("led", 3, True), ("stuck", 0, False), ("stuck", 1, True)):
            self.assertIn(kind, kinds)

    def every_paper(self, word, rounds, last):
        """A function that tells whether a paper is right."""
        def is_right(paper):
            if not isinstance(paper, tuple) or len(paper) != 2 or not isinstance(paper[0], tuple):
                return False
            told, end = paper
            if len(told) != len(rounds) or any(not isinstance(one, tuple) or len(one) != 2 for one in told):
                return False
            for (charges, here), (ahead, wanted) in zip(told, rounds):
                if here != wanted or not isinstance(charges, tuple) or len(charges) != len(ahead):
                    return False
                if any(charge not in some for charge, some in zip(charges, ahead)):
                    return False
            if word == "led":
                return end == last
            return len(end) == len(last) and all(charge in some for charge, some in zip(end, last))
        return is_right

    def test_the_walk(self):
        """The same restrictions and the same tree as `walk` tells."""
        for n, layers, free, depths in self.some_walks(30):
            told, paper = answers.answered(("led", n, layers, free, depths))
            found = lowered.walk(n, layers, free, depths)
            self.assertEqual(told[0], "led" if found[0] == "tree" else "stuck")
            self.assertEqual(tuple(here for _, here in paper[0]), found[1])
            if found[0] == "tree":
                self.assertEqual(paper[1], found[2])
            else:
                self.assertIs(lowered.is_walk(n, layers, free, depths, ("charged", found[1], paper[1])), True)

    def test_too_many_clauses(self):
        """Neither claim has papers then, and `answered` raises."""
        claim = ("led", 6, WIDE, (6, 6), (7, 7))
        self.assertIs(judge.is_claim(claim), True)
        self.assertIsNone(self.papers(*claim[1:]))
        word, rounds, last = self.papers(*claim[1:], most=80)
        self.assertEqual(word, "led")
        for value in (claim, judge.opposite(claim)):
            self.refuses(errors.TooMany, 64, answers.answered, value)
            self.assertIs(judge.takes(value, self.paper(word, rounds, last)), False)
            for paper in (((((), (2,) * 6),), ()), ((((), (2,) * 6),), ((0, ((), ())),))):
                self.assertIs(judge.takes(value, paper), False)
        # A first round without a good restriction comes ahead of that.
        told, paper = answers.answered(("led", 6, WIDE, (6, 6), (6, 7)))
        self.assertEqual(told[0], "stuck")
        self.assertIs(judge.takes(told, paper), True)

    def test_just_enough_clauses(self):
        """64 clauses are let, 65 are not; with those of one way and no letter there are so many."""
        whole = WIDE[1][:2]
        for extra, wanted in (((), True), ((((0, 1),),), False)):
            formulas = whole + ((extra,) if extra else ())
            layers = ("ands", formulas, ((tuple(range(len(formulas))),),))
            claim = ("led", 6, layers, (6, 6), (7, 7))
            word, rounds, last = self.papers(*claim[1:], most=65)
            self.assertEqual(judge.takes(claim, self.paper(word, rounds, last)), wanted)
            if wanted:
                self.assertEqual(answers.answered(claim), (claim, self.paper(word, rounds, last)))
            else:
                self.refuses(errors.TooMany, 64, answers.answered, claim)

    def test_work(self):
        """The work limit bars the answer alone: the checker takes papers."""
        term = ((5, 1),)
        layers = ("ands", ((term,) * 64,) * 6, ((tuple(range(6)),),))
        claim = ("led", 6, layers, (2, 2), (1, 1))
        self.assertIs(judge.is_claim(claim), True)
        self.refuses(errors.TooMany, 60000, answers.answered, claim)
        # The first restriction tells letter 5 the bit 0, so no gate is deep, and the layers are false.
        first = reference.with_free(6, 2)[0]
        self.assertIs(judge.takes(claim, ((((), first), ((), first)), 0)), True)
        self.assertIs(judge.takes(claim, ((((), first), ((), first)), 1)), False)

    def test_six_letters(self):
        for rounds in (2, 3, 4):
            for _ in range(4):
                layers = reference.random_layers(CHANCE, 6, rounds, 2, 2)
                free = tuple(range(6, 6 - rounds, -1))
                claim = ("led", 6, layers, free, (CHANCE.choice((2, 3)),) * rounds)
                told, paper = answers.answered(claim)
                self.assertIs(judge.takes(told, paper), True)
                self.assertIs(judge.takes(judge.opposite(told), paper), False)


class TestSums(Papers):
    """[21.2] "sums", "errs" """

    def test_circuits(self):
        for n in range(5):
            some = [blocks.sum_circuit(n, blocks.least_sizes(n, 1) if n > 1 else ())] if n else [(("or", ()),)]
            some += [reference.random_circuit(CHANCE, n, CHANCE.randint(1, 9)) for _ in range(25)]
            for circuit in some:
                rows_wrong = [
                    row for row in reference.inputs(n)
                    if reference.value(reference.circuit_table(n, circuit), row) != reference.sum_of(row)
                ]
                others = [row for row in reference.inputs(n) if row not in rows_wrong]
                others += [(0,) * (n + 1), (2,) * (n + 1), None, ((),), ("input", (0,) * n)]
                if rows_wrong:
                    self.settles(("sums", n, circuit), rows_wrong, others + ([()] if n else []), False)
                else:
                    self.settles(("sums", n, circuit), [()], [value for value in others if value != ()], True)

    def test_greatest_ones(self):
        circuit = blocks.sum_circuit(10, (3, 4))
        self.assertEqual(answers.answered(("errs", 10, circuit)), (("sums", 10, circuit), ()))
        other = circuits.not_of(10, circuit)
        told, paper = answers.answered(("sums", 10, other))
        self.assertEqual(told[0], "errs")
        self.assertIs(judge.takes(told, paper), True)


class TestNotTrue(support.Case):
    """[21.4]"""

    def test_one_paper_of_two_claims(self):
        code = codes.code_of(FREE, DEEP, 4)
        more = DEEP + (((5, 1),),)
        for formula in (DEEP, more):
            self.assertIs(judge.takes(("deep", FREE, formula, 4), code), True)

    def test_a_lesser_s(self):
        code = codes.code_of(FREE, DEEP, 4)
        self.assertIs(judge.takes(("deep", FREE, DEEP, 3), code), False)


if __name__ == "__main__":
    unittest.main()
