import itertools
import random
import unittest

import reference
import support
from deepcodes import errors
from deepcodes.circuits import circuits
from deepcodes.letters import masks

CHANCE = random.Random(1111)
PARTS = (
    ("letter", 0, 1), ("letter", 0, 0), ("letter", 1, 1), ("letter", 1, 0), ("and", (0, 3)), ("and", (1, 2)),
    ("or", (4, 5)),
)
THREE = ("ands", ((((0, 1), (1, 1)), ((2, 1),)), (((0, 0),),)), (((0, 1),),))
EMPTY = [(("and", ()),), (("or", ()),), (("and", ()), ("or", (0,))), (("or", ()), ("or", (0,))),
    (("or", ()), ("and", (0,)))]


def some_circuits(most=4, many=60):
    for n in range(most + 1):
        for circuit in EMPTY:
            yield n, circuit
        for _ in range(many):
            yield n, reference.random_circuit(CHANCE, n, CHANCE.randint(1, 14))


def some_layers(most=3, many=40):
    for n in range(most + 1):
        for word, formula in itertools.product(("ands", "ors"), ((), ((),))):
            yield n, (word, (formula,), ())
            yield n, (word, (formula, ()), ((((0, 1)), ()), ((0, 1),)))
        for _ in range(many):
            yield n, reference.random_layers(CHANCE, n, CHANCE.randint(1, 5))


def deep_circuit(depth):
    """A circuit of one letter that is just so deep."""
    return (("letter", 0, 1),) + tuple(("and" if at % 2 else "or", (at,)) for at in range(depth))


def wide_circuit(many, behind):
    """A gate of two gates of its own word, together with so many lots; the last line needs it or not."""
    gates = (("and", ()),) * many
    lines = gates + (("or", tuple(range(many // 2))), ("or", tuple(range(many // 2, many))))
    lines += (("or", (many, many + 1)),)
    return lines if behind is None else lines + (("or", (many + 2,)),) + behind


class TestForms(support.Case):
    """[11.1], [11.5]"""

    def test_circuits(self):
        for n, circuit in some_circuits():
            self.takes_just(circuits.is_circuit, (n,), [circuit], [circuit + (("or", (len(circuit),)),)])
        for n, good in ((2, PARTS), (0, EMPTY[2]), (1, (("letter", 0, 0),)), (10, (("letter", 9, 0),))):
            self.takes_just(circuits.is_circuit, (n,), [good], support.circuit(n, good).wrong)

    def test_most_lines(self):
        self.assertEqual([circuits.MOST_LINES, circuits.MOST_LOT, circuits.MOST_GATES, circuits.MOST_LAYERS],
            [120, 64, 60, 6])
        for many, wanted in ((120, True), (121, False)):
            self.assertIs(circuits.is_circuit(0, (("and", ()),) * many), wanted)
        for many, wanted in ((64, True), (65, False)):
            lot = tuple(range(many))
            self.assertIs(circuits.is_circuit(0, (("and", ()),) * 65 + (("or", lot),)), wanted)

    def test_layers(self):
        for n, layers in some_layers():
            self.takes_just(circuits.are_layers, (n,), [layers])
        for n, good in ((3, THREE), (0, ("ors", ((), ((),)), (((0, 1),),))), (1, ("ors", ((),), ()))):
            self.takes_just(circuits.are_layers, (n,), [good], support.layers(n, good).wrong)

    def test_most_gates(self):
        lots = (((0,),),)
        for many, wanted in ((60, True), (61, False)):
            self.assertIs(circuits.are_layers(1, ("ands", ((),) * many, lots)), wanted)
            self.assertIs(circuits.are_layers(1, ("ors", ((),), (((0,),) * many, ((0,),)))), wanted)
        for many, wanted in ((6, True), (7, False)):
            self.assertIs(circuits.are_layers(1, ("ands", ((),), lots * many)), wanted)
        for many, wanted in ((64, True), (65, False)):
            self.assertIs(circuits.are_layers(1, ("ands", (((),) * many,), ())), wanted)
        self.assertIs(circuits.are_layers(1, ("ands", ((),) * 60, ((tuple(range(60)),),))), True)
        self.assertIs(circuits.are_layers(1, ("ands", ((), ()), ())), False)
        self.assertIs(circuits.are_layers(1, ("ands", ((), ()), (((0,), (1,)),))), False)

    def test_arguments(self):
        self.judges(circuits.is_circuit, support.letters(3))
        self.judges(circuits.are_layers, support.letters(3))
        self.judges(circuits.is_circuit, support.letters(0))
        self.judges(circuits.are_layers, support.letters(0))


class TestValues(support.Case):
    """[11.1], [11.3], [11.5]"""

    def test_circuits(self):
        for n, circuit in some_circuits():
            table = reference.circuit_table(n, circuit)
            self.assertEqual(circuits.circuit_table(n, circuit), table)
            for row in reference.inputs(n):
                self.assertEqual(circuits.circuit_value(n, circuit, row), reference.value(table, row))

    def test_not(self):
        for n, circuit in some_circuits(3):
            other = circuits.not_of(n, circuit)
            self.assertEqual(circuits.not_of(n, other), circuit)
            self.assertEqual(circuits.circuit_depth(n, other), circuits.circuit_depth(n, circuit))
            for row in reference.inputs(n):
                values = reference.line_values(circuit, row)
                self.assertEqual(reference.line_values(other, row), [1 - value for value in values])
            for line, turned in zip(circuit, other):
                if line[0] == "letter":
                    self.assertEqual(turned, ("letter", line[1], 1 - line[2]))
                else:
                    self.assertEqual((turned[0], turned[1]), ({"and": "or", "or": "and"}[line[0]], line[1]))

    def test_layers(self):
        for n, layers in some_layers():
            table = reference.layers_table(n, layers)
            self.assertEqual(circuits.layers_table(n, layers), table)
            for row in reference.inputs(n):
                self.assertEqual(circuits.layers_value(n, layers, row), reference.value(table, row))

    def test_edges(self):
        self.assertEqual(circuits.circuit_table(0, (("and", ()),)), (1,))
        self.assertEqual(circuits.circuit_table(0, (("or", ()),)), (0,))
        self.assertEqual(circuits.layers_table(0, ("ands", ((),), ())), (0,))
        self.assertEqual(circuits.layers_table(0, ("ors", ((),), ())), (1,))
        self.assertEqual(circuits.layers_table(0, ("ands", ((),), (((),),))), (1,))
        self.assertEqual(circuits.layers_table(0, ("ors", ((),), (((),),))), (0,))
        self.assertEqual(sum(circuits.circuit_table(10, (("letter", 9, 1),))), 512)

    def test_arguments(self):
        for n, good, row in ((2, PARTS, (0, 1)), (0, EMPTY[2], ())):
            arguments = (support.letters(n), support.circuit(n, good))
            for function in (circuits.circuit_table, circuits.circuit_depth, circuits.not_of, circuits.pushed):
                self.checks(function, *arguments)
            self.checks(circuits.circuit_value, *arguments, support.row(row))
        for n, good, row in ((3, THREE, (0, 1, 1)), (0, ("ors", ((),), ()), ())):
            arguments = (support.letters(n), support.layers(n, good))
            self.checks(circuits.layers_table, *arguments)
            self.checks(circuits.layers_value, *arguments, support.row(row))


class TestDepth(support.Case):
    """[11.2]"""

    def test_depths(self):
        for n, circuit in some_circuits():
            self.assertEqual(circuits.circuit_depth(n, circuit), reference.circuit_depth(circuit))

    def test_some(self):
        self.assertEqual(circuits.circuit_depth(1, (("letter", 0, 1),)), 0)
        for depth in range(30):
            self.assertEqual(circuits.circuit_depth(1, deep_circuit(depth)), depth)
        own = (("letter", 0, 1), ("and", (0,)), ("and", (1,)), ("or", (2,)), ("or", (0, 3)), ("and", (4,)))
        self.assertEqual([circuits.circuit_depth(1, own[:many]) for many in range(1, 7)], [0, 1, 1, 2, 2, 3])
        self.assertEqual([circuits.circuit_depth(0, circuit) for circuit in EMPTY], [1, 1, 2, 1, 2])


class TestPushed(support.Case):
    """[11.4]"""

    def test_pushed(self):
        for n, circuit in some_circuits():
            together = circuits.pushed(n, circuit)
            self.assertEqual(together, reference.pushed(circuit))
            self.assertEqual(circuits.pushed(n, together), together)
            self.assertEqual(reference.circuit_table(n, together), reference.circuit_table(n, circuit))
            self.assertEqual(circuits.circuit_depth(n, together), circuits.circuit_depth(n, circuit))
            for line in together:
                if line[0] != "letter":
                    self.assertNotIn(line[0], [together[at][0] for at in line[1]])

    def test_great_lots(self):
        self.assertEqual(len(circuits.pushed(0, wide_circuit(64, None))), 65)
        self.refuses(errors.TooMany, 64, circuits.pushed, 0, wide_circuit(65, None))
        # Only lines that stay count: the great lot is not needed, or is a part of a greater one.
        self.assertEqual(circuits.pushed(0, wide_circuit(80, (("and", ()),))), (("and", ()),))
        self.refuses(errors.TooMany, 64, circuits.pushed, 0, wide_circuit(80, (("and", (83,)),)))
        self.refuses(errors.TooMany, 64, circuits.layers_of, 0, wide_circuit(65, None))
        self.assertEqual(circuits.circuit_depth(0, wide_circuit(65, None)), 2)

    def test_a_member_twice(self):
        circuit = (("letter", 0, 1), ("letter", 1, 1), ("or", (0, 1)), ("or", (1,)), ("or", (0, 2, 3)))
        self.assertEqual(circuits.pushed(2, circuit), (("letter", 0, 1), ("letter", 1, 1), ("or", (0, 1))))
        # Equal lines stay unlike ones.
        double = (("letter", 0, 1), ("letter", 0, 1), ("and", (0, 1)))
        self.assertEqual(circuits.pushed(1, double), double)


class TestThereAndBack(support.Case):
    """[11.6]"""

    def test_layers_of(self):
        for n, circuit in some_circuits():
            depth = reference.circuit_depth(circuit)
            if depth > 8:
                continue
            layers = circuits.layers_of(n, circuit)
            self.assertIs(circuits.are_layers(n, layers), True)
            self.assertEqual(reference.layers_table(n, layers), reference.circuit_table(n, circuit))
            self.assertEqual(1 + len(layers[2]), max(1, depth - 1))
            self.assertIs(circuits.are_layers_of(n, circuit, layers), True)

    def test_deep_ones(self):
        found = set()
        for _ in range(3000):
            n = CHANCE.randint(1, 4)
            circuit = reference.random_circuit(CHANCE, n, CHANCE.randint(15, 60), 3)
            depth = reference.circuit_depth(circuit)
            if depth < 4 or len(found) > 200 and depth < 7:
                continue
            if depth > 8:
                self.refuses(errors.TooMany, 8, circuits.layers_of, n, circuit)
                self.refuses(errors.TooMany, 8, circuits.are_layers_of, n, circuit, None)
                continue
            layers = circuits.layers_of(n, circuit)
            self.assertEqual(reference.layers_table(n, layers), reference.circuit_table(n, circuit))
            self.assertEqual(len(layers[2]), depth - 2)
            self.assertIs(circuits.are_layers(n, layers), True)
            found.add((depth, circuit))
        self.assertEqual({depth for depth, _ in found}, {4, 5, 6, 7, 8})

    def test_are_layers_of(self):
        for n, circuit in some_circuits(2, 25):
            depth = reference.circuit_depth(circuit)
            if depth > 8:
                continue
            table = reference.circuit_table(n, circuit)
            for _ in range(25):
                layers = reference.random_layers(CHANCE, n, CHANCE.choice((max(1, depth - 1), 1, 2)), 2, 2)
                wanted = reference.layers_table(n, layers) == table and 1 + len(layers[2]) == max(1, depth - 1)
                self.assertIs(circuits.are_layers_of(n, circuit, layers), wanted)

    def test_wrong_values(self):
        right = [("ands", ((((0, 1), (1, 0)), ((0, 0), (1, 1))),), ()),
            ("ors", ((((0, 1), (1, 1)), ((0, 0), (1, 0))),), ())]
        one_more = ("ands", right[0][1], (((0,),),))
        wrong = [one_more, ("ors", right[0][1], ()), ("ands", ((),), ()), PARTS, ("ands", right[0][1] * 2, ())]
        self.takes_just(circuits.are_layers_of, (2, PARTS), right, wrong)
        for circuit in ((("letter", 0, 1),), (("letter", 0, 1), ("and", (0,)))):
            wrong = [("ands", ((((0, 1),),),), (((0,),),)), ("ands", ((((0, 0),),),), ()),
                ("ands", ((((1, 1),),),), ())]
            right = [("ands", ((((0, 1),),),), ()), ("ors", ((((0, 1),),),), ())]
            self.takes_just(circuits.are_layers_of, (1, circuit), right, wrong)

    def test_too_many(self):
        letters = tuple(("letter", at % 10, at // 10 % 2) for at in range(20))
        pairs = list(itertools.combinations(range(20), 2))
        for many, is_good in ((39, True), (40, False)):
            circuit = letters + tuple(("and", pair) for pair in pairs[3:3 + many]) + (("or", tuple(range(20 + many))),)
            self.assertEqual(len(circuits.pushed(10, circuit)), 21 + many)
            if is_good:
                layers = circuits.layers_of(10, circuit)
                self.assertIs(circuits.are_layers_of(10, circuit, layers), True)
            else:
                self.refuses(errors.TooMany, 60, circuits.layers_of, 10, circuit)
                self.assertIs(circuits.are_layers_of(10, circuit, ("ands", ((((0, 1),),),), ())), False)
        # Lines that are not needed do not count.
        self.assertEqual(circuits.layers_of(1, (("and", ()),) * 90 + (("letter", 0, 1),))[0] in ("ands", "ors"), True)

    def test_too_deep(self):
        for depth in range(9):
            layers = circuits.layers_of(1, deep_circuit(depth))
            self.assertIs(circuits.are_layers_of(1, deep_circuit(depth), layers), True)
        for depth in (9, 20, 119):
            self.refuses(errors.TooMany, 8, circuits.layers_of, 1, deep_circuit(depth))
            self.refuses(errors.TooMany, 8, circuits.are_layers_of, 1, deep_circuit(depth), None)
        # In their sequence: 64, 8, 60. The judge has the second one alone.
        wide = wide_circuit(65, ())
        deep = wide + tuple(("and" if at % 2 else "or", (len(wide) - 1 + at,)) for at in range(12))
        self.assertGreater(circuits.circuit_depth(0, deep), 8)
        self.refuses(errors.TooMany, 64, circuits.layers_of, 0, deep)
        self.refuses(errors.TooMany, 8, circuits.are_layers_of, 0, deep, None)
        self.assertIs(circuits.are_layers_of(0, wide, ("ands", (((),),), ())), True)
        self.refuses(errors.TooMany, 8, circuits.layers_of, 1, deep_circuit(119))

    def test_circuit_of(self):
        for n, layers in some_layers():
            circuit = circuits.circuit_of(n, layers)
            self.assertIs(circuits.is_circuit(n, circuit), True)
            self.assertEqual(reference.circuit_table(n, circuit), reference.layers_table(n, layers))
            self.assertLessEqual(reference.circuit_depth(circuit), 2 + len(layers[2]))
            self.assertIs(circuits.is_circuit_of(n, layers, circuit), True)
            for other in (circuits.not_of(n, circuit), circuit + (("and", (len(circuit) - 1,)),)):
                wanted = reference.circuit_table(n, other) == reference.layers_table(n, layers)
                wanted = wanted and reference.circuit_depth(other) <= 2 + len(layers[2])
                self.assertIs(circuits.is_circuit_of(n, layers, other), wanted)

    def test_is_circuit_of(self):
        layers = ("ands", ((((0, 1), (1, 0)), ((0, 0), (1, 1))),), ())
        deeper = PARTS + (("and", (6,)),)
        wrong = [deeper, circuits.not_of(2, PARTS), (("letter", 0, 1),), layers, PARTS[:6]]
        self.takes_just(circuits.is_circuit_of, (2, layers), [PARTS, PARTS + (("or", (6,)),)], wrong)
        self.assertIs(circuits.is_circuit_of(2, ("ands", layers[1], (((0,),),)), deeper), True)

    def test_many_lines(self):
        """Layers of few unlike terms make few lines; of many, too many."""
        pairs, bit_pairs = itertools.combinations(range(10), 2), ((0, 0), (0, 1), (1, 0))
        terms = [tuple(zip(letters, bits)) for letters in pairs for bits in bit_pairs]
        formulas = tuple(tuple(terms[at:at + 2]) for at in range(60))
        self.refuses(errors.TooMany, 120, circuits.circuit_of, 10, ("ands", formulas, ((tuple(range(60)),),)))
        same = ("ands", (tuple(terms[:64]),) * 60, ((tuple(range(60)),) * 60, (tuple(range(60)),)))
        self.assertIs(circuits.is_circuit_of(10, same, circuits.circuit_of(10, same)), True)
        # 20 letters, 97 terms of two literals, two formulas and the gate over them are 120 lines, each made once.
        ones = tuple(((letter, 1),) for letter in range(2))
        for many, wanted in ((97, 120), (98, None)):
            lots = (ones + tuple(terms[:49]), tuple(terms[49:many]) + ones[:1])
            layers = ("ands", lots, (((0, 1),),))
            if wanted:
                circuit = circuits.circuit_of(10, layers)
                self.assertEqual(len(circuit), wanted)
                self.assertIs(circuits.is_circuit_of(10, layers, circuit), True)
            else:
                self.refuses(errors.TooMany, 120, circuits.circuit_of, 10, layers)
        some = ("ors", (tuple(terms[:64]),), ())
        self.assertLessEqual(len(circuits.circuit_of(10, some)), 20 + 64 + 1)
        unused = ("ands", formulas, (((0,), tuple(range(60))), ((0,),)))
        self.assertLess(len(circuits.circuit_of(10, unused)), 10)

    def test_arguments(self):
        circuit, layers = support.circuit(2, PARTS), support.layers(3, THREE)
        self.checks(circuits.layers_of, support.letters(2), circuit)
        self.judges(circuits.are_layers_of, support.letters(2), circuit)
        self.judges(circuits.are_layers_of, support.letters(0), support.circuit(0, EMPTY[0]))
        self.checks(circuits.circuit_of, support.letters(3), layers)
        self.judges(circuits.is_circuit_of, support.letters(3), layers)
        self.judges(circuits.is_circuit_of, support.letters(0), support.layers(0, ("ors", ((),), ())))


class TestNotTrue(support.Case):
    """[11.7]"""

    def test_fewest_lines(self):
        circuit = (("letter", 0, 1), ("letter", 0, 1), ("and", (0, 1)))
        self.assertEqual(circuits.pushed(1, circuit), circuit)
        self.assertEqual(circuits.circuit_table(1, circuit), circuits.circuit_table(1, circuit[:1]))

    def test_one_table(self):
        one, other = (("letter", 0, 1),), (("letter", 0, 1), ("and", (0,)))
        self.assertEqual(circuits.circuit_table(1, one), circuits.circuit_table(1, other))
        self.assertNotEqual(circuits.circuit_depth(1, one), circuits.circuit_depth(1, other))

    def test_sums(self):
        for n in range(11):
            odd = sum(bin(number).count("1") % 2 << number for number in range(2 ** n))
            self.assertEqual(masks.sum_mask(n), odd)


if __name__ == "__main__":
    unittest.main()
