"""What the tests share: wrong values, and checks of the errors of arguments."""

import itertools
import unittest

from deepcodes import errors
from deepcodes.use import bench


def nested(wrap, depth=200):
    value = 0
    for _ in range(depth):
        value = wrap(value)
    return value


DEEP_VALUES = [
    nested(lambda value: (value,)), nested(lambda value: [value]), nested(lambda value: {0: value}),
    nested(lambda value: (0, value, value)), nested(lambda value: ("tree", value)),
    nested(lambda value: ((value, ()), 1)),
]
SHARED_TREE = 0
for letter in reversed(range(200)):
    SHARED_TREE = (letter, SHARED_TREE, SHARED_TREE)

# Values that are no right answer to anything but perhaps a tree, an input or a restriction.
JUNK = DEEP_VALUES + [
    None, True, False, 0, 1, 2, -1, 9, 10, 10 ** 9, 10 ** 10, -10 ** 10, 10 ** 100, 10 ** 1000, "", "0", "tree",
    "input", "sum", (), [], {}, ((),), ((0, 1),), [(0, 1)], ((0, 1), (0, 1)), (None,), (0,), (1,), (2,), (True,),
    (10 ** 10,), ("sum",), ("not sum",), ("within",), ("prime",), ("needless",), ("alike",), ("parts",), ["parts"],
    ("sum", 0), ("tree",), ("tree", None), ("tree", True), ("tree", [0, 0, 1]), ("tree", (0, 0, 1), 1),
    ("tree", (10 ** 10, 0, 1)), ["tree", 0], {"tree": 0}, ("input",), ("input", None), ("input", (None,)),
    ("input", (2,)), ("input", (10 ** 30,)), ("input", 0, 0), ("code", ()), ("code", None), ("code", ((), ())),
    ("code", ((), ((10 ** 20, 0, 1),))), ("code", ([], ())), ((), ((0, 0, 1),)), ((2,), ()), ((2,), [()]),
    ((1,), ((0, 0),)), ((1,), ((0, 0, True),)), ("row", 5), ("row", [()]), ("row", (None,)), ("row", ((0, 0), None)),
    ("letter", None), ("letter", 10 ** 30), ("letter", -1), ("letter", True), ("letter",), ("both", None),
    ("both", [2]), ("rest", [2]), ("rest", None), ("two", (), 0, 1), ("two", (0,), True, 1), ("two", (0,), 0),
    ("two", None, None, None), ("none", None), ("none", ()), ("kept", (0,), 0), ("kept", [], []), ("kept",),
    ("kept", (), None), ("plan", {}), ("plan", None), ("plan", {(): ()}), ("plan", {None: None}),
    ("plan", {(2,): [()]}), {(2,): ()}, {(2,): None}, {(2, 2): (0, 1)}, {None: 1}, {1: {}}, {"a": ()},
    {DEEP_VALUES[0]: ()}, ("tree", DEEP_VALUES[0]), ("tree", DEEP_VALUES[3]), ("code", (DEEP_VALUES[0], ())),
    ("tree", SHARED_TREE), SHARED_TREE, ((0, 1), DEEP_VALUES[0]), (DEEP_VALUES[0], DEEP_VALUES[1]),
    errors.InvalidNumber(3), (errors.InvalidTable("x"),), ("input", errors.TooMany(1)),
    ("good", None), ("good", [2]), ("good", (True,)), ("codes", None), ("codes", [()]), ("codes", (None,)),
    ("codes", (((2,), ()), None)), ("both", None, None), ("both", (), [()]), ("both", (((10 ** 20, 1),),), ()),
    ("terms", None), ("terms", [()]), ("terms", (None,)), ("terms", (((0, True),),)), ("terms", DEEP_VALUES[0]),
    ((2,), ((0, ()),)), ((2,), ((0, ((0, 0, 1, 0),)),)), ((2,), ((10 ** 20, ((10 ** 20, 0, 1, 0),)),)), ((2,), (0,)),
    (0, ((2,), ())), (0, None), (None, ((2,), ())), (10 ** 20, ((2,), ())), (0, (0, (), ()), ()), (0, (), ()),
    (("letter", 0, 1),), (("letter", None, 1),), (("letter", 10 ** 20, 1),), (("and", ()),), (("or", None),),
    (("or", (0,)),), (("or", [()]),), (("or", (10 ** 20,)),), (DEEP_VALUES[0], ("or", ())), ("and", ()),
    ("letter", 0, 1), ("ands", ((),), ()),
    ("ors", ((),), ()), ("ands", None, ()), ("ors", ((),), None), ("ands", ((),), (None,)), ("ands", ((),), ((None,),)),
    ("ands", ((),), (((10 ** 20,),),)), ("ands", DEEP_VALUES[0], DEEP_VALUES[0]), (["ands"], ((),), ()),
    ("tree", (), 0), ("tree", ((2,),), 0), ("tree", None, None), ("tree", ((2,),), True), ("tree", DEEP_VALUES[0], 0),
    ("charged", (), ()), ("charged", None, None), ("charged", (), (None,)), ("charged", (), ((0, None),)),
    ("charged", DEEP_VALUES[0], ()), ("charged", (), DEEP_VALUES[0]), ("charged",), ("wrong", None), ("wrong", ()),
    ("wrong", (0,)), ("wrong", [0]), ("wrong", (2,)), ("wrong", DEEP_VALUES[0]), ("deep", None), ("deep", ((), ())),
    ("deep", ((True,), ())), ("deep", DEEP_VALUES[0]), (((2,),), (0,)), (None, None), (((2,),), None), (((2,),), [0]),
    ("sum", None), ("sum", True), ("sum", 10 ** 30), ("sum", [1]), ("sum", (1,)), (2, 2), (10 ** 20,), (2, 10 ** 20),
    [2, 2], ("low",), ("low", 0), ["low"], ("deep", (2,)), ("deep", (0, 2)), ("deep", [2, 2]), {(): 1}, {(): True},
    {(): -1}, {(0,): 1}, {(0,): 10 ** 40}, {(True,): 1}, {(0, 0): 1}, {(1, 0): 2}, {(): 0}, {(): 3}, {0: 1},
    {(): 2, (0,): 2, (1,): 2, (0, 1): -2}, {(): DEEP_VALUES[0]}, ("formula", None), ("formula", ()), ("formula", [()]),
    ("formula", (((0, 10 ** 20),),)), ("formula", DEEP_VALUES[0]), ("nice",), ("nice", ()), ["nice"], ("cut", ()),
    ("cut", None), ("cut", [0]), ("cut", (0,)), ("cut", (True,)), ("cut", (2,)), ("cut", (None,)), ("cut", (0,) * 200),
    ("cut", DEEP_VALUES[0]), ((), (0,)), ((), (1,)), ((), [0]), ([], (0,)), (((0, 1),), (1, 1)), (((0, 1),), None),
    (((0, 1), (0, 1)), (1, 1)), ((DEEP_VALUES[0],), (0,)), ("and", 0, 1), ("or", 0, (0, 1)), ("and", 0), ["and", 0, 1],
    ("and", (0, 1), (0, True)), ("or", 0, 2), ("and", None, None), ("nor", 0, 1), (0, 1), (0, 0), (10 ** 20, 1),
    nested(lambda value: ("and", value, value)), nested(lambda value: ("or", value, 1)),
    nested(lambda value: ("and", 0, value)), ("leaves", (), (), 0), ("leaves", (0,), (), 0), ("leaves", (), (0,), 0),
    ("leaves", None, None, None), ("leaves", (), (), True), ("leaves", [], [], 0), ("leaves", (0,), (1,), 10 ** 30),
    ("leaves", (0, 0), (1,), 0), ("leaves", (False,), (1,), 0), ("leaves", (10 ** 20,), (), 0), ("leaves",),
    ("leaves", DEEP_VALUES[0], DEEP_VALUES[0], 0), ("charged", (0,)), ("charged", (0, 0)), ("charged", None),
    ("charged", (True,)), ("charged", DEEP_VALUES[0]), (("thirds", ()),), (("thirds", (0,)),), (("thirds", None),),
    (((),),), (((0,),),), (((True,),),), ((((),),),), ("low", (), (), 0), ("low", (2,), (((0, 1),),), 1),
    ("low", [], (), 0), ("low", (), (), True), ("low", None, None, None), ("deep", (), (), 10 ** 30),
    ("some", 0, (), 0, 0), ("none", 0, (), 0, 1), ("some", True, (), 0, 0), ("none", 0, (), 1, 0), ("some",),
    ("asked", (0,), 0), ("open", (0, 1), 0), ("asked", [0], 0), ("open", (0, True), 0), ("asked", (0, 1, 0), 1),
    ("narrow", (0, 1), 1, 0), ("wide", (0, 1), True, 0), ("narrow", (0, 1), 2, 0), ("wide", (0,), 0, None),
    ("led", 0, ("ands", ((),), ()), (0,), (1,)), ("stuck", 0, ("ands", ((),), ()), (0,), (0,)), ("led", 0, (), (), ()),
    ("stuck", 7, ("ands", ((),), ()), (0,), (1,)), ("led", DEEP_VALUES[0], DEEP_VALUES[1], (), ()),
    ("sums", 0, (("and", ()),)), ("errs", 0, ()), ("sums", None, None), ("errs", 1, (("letter", 0, 1),)),
    (DEEP_VALUES[0],), ([],), ({},), (("low",), (), (), 0), ("low", DEEP_VALUES[0], DEEP_VALUES[1], DEEP_VALUES[2]),
    ((), 0), ((), 1), (((), (2,)),), ((((), (2,)),), 0), ((((), ()),), 0), ((((), ()),), 1), (((), ()),), (((),), ()),
    ((((), DEEP_VALUES[0]),), 0), (((DEEP_VALUES[0], ()),), 0), (DEEP_VALUES[0], DEEP_VALUES[3]), bench.Bench(2),
]

NO_NUMBERS = [
    True, False, None, "1", "", (1,), (), [], [1], {}, {1: 1}, 10 ** 9, 10 ** 10, -10 ** 10, 10 ** 99,
    errors.InvalidNumber(1),
]
NO_TUPLES = [
    None, True, False, 0, 1, 5, 10 ** 10, 10 ** 99, "", "01", [], [0], [0, 1], {}, {0: 1}, [[]], [(0, 1)],
    errors.DeepError("x"),
]


class Argument:
    """A good value for a parameter, the error of wrong ones, and some of these."""

    def __init__(self, good, error, wrong):
        self.good, self.error, self.wrong = good, error, wrong


def number(good, least, most):
    return Argument(good, errors.InvalidNumber, [least - 1, most + 1] + NO_NUMBERS)


def letters(good):
    return number(good, 0, 10)


def disguised(value):
    """Copies of a value with one 0 or 1 as a boolean, or with one tuple as a list: never right."""
    if isinstance(value, bool) or value is None or isinstance(value, str):
        return
    if isinstance(value, int):
        if value in (0, 1):
            yield bool(value)
        return
    if isinstance(value, dict):
        for key in value:
            for other in disguised(value[key]):
                yield {**value, key: other}
            for other in disguised(key):
                try:
                    hash(other)
                except TypeError:
                    continue
                yield {**{k: value[k] for k in value if k != key}, other: value[key]}
        return
    yield list(value)
    for at, part in enumerate(value):
        for other in disguised(part):
            yield (*value[:at], other, *value[at + 1:])


def row(good):
    n = len(good)
    wrong = NO_TUPLES + list(disguised(good)) + [(*good, 0), list(good), (0,) * (n + 2)]
    if n:
        wrong += [good[1:], (2, *good[1:]), (None, *good[1:]), (-1, *good[1:]), (*good[:-1], 10 ** 10)]
    return Argument(good, errors.InvalidInput, wrong)


def table(good, most=10):
    wrong = NO_TUPLES + list(disguised(good))[:9] + [(), good + good + good, list(good), (0,) * 2048]
    wrong += [(2, *good[1:]), (*good[:-1], -1), (*good[:-1], None), (*good[:-1], 10 ** 10), (0, 1, 0)]
    if most < 10:
        wrong += [(0,) * (2 << most)]
    return Argument(good, errors.InvalidTable, wrong)


def table_like(good):
    """A table of just as many letters."""
    argument = table(good)
    argument.wrong += [good + good] + ([good[::2]] if len(good) > 1 else [])
    return argument


def term(n, good):
    wrong = [None, True, 0, 10 ** 10, "", [], {}, [(0, 1)], ((0,),), ((0, 1, 1),), (0, 1), ((n, 1),), ((-1, 0),)]
    wrong += [(("0", 1),), ((None, 1),), ((10 ** 10, 1),), (([], 1),), ([0, 1],)]
    if n:
        wrong += [((0, 2),), ((0, True),), ((False, 1),), ((0, 1), (0, 1)), ((0, 0), (0, 1)), ((0, None),)]
    if n > 1:
        wrong += [((1, 0), (0, 1)), ((0, 1), (True, 1)), ((0, 1), [1, 1])]
    return Argument(good, errors.InvalidFormula, wrong)


def formula(n, good):
    wrong = NO_TUPLES + [(each,) for each in term(n, ()).wrong] + [((),) * 65, ((), None), (0,), ("",), [()], ((), [])]
    return Argument(good, errors.InvalidFormula, wrong)


def any_restriction(good):
    n = len(good)
    wrong = NO_TUPLES + [list(good), (2,) * 11, (3,) * n or (3,), (None,), (True,) * max(n, 1), ("2",), ((2,),), (-1,)]
    wrong += [(10 ** 10,), (*good[:-1], 3), (*good[:-1], False), (*good[:-1], -1)]
    return Argument(good, errors.InvalidRestriction, wrong)


def restriction(good):
    argument = any_restriction(good)
    argument.wrong += [(*good, 2), (*good, 0, 1)] + ([good[1:]] if good else [])
    return argument


def tree(n, good):
    wrong = [None, True, False, 2, -1, 10 ** 10, "", "0", (), [], {}, [0, 0, 1], (0, 0), (0, 0, 1, 1), (n, 0, 1)]
    wrong += [(-1, 0, 1), (None, 0, 1), ("0", 0, 1), (10 ** 10, 0, 1), ((), 0, 1), ([], 0, 1)]
    if n:
        wrong += [(0, True, 1), (0, 0, False), (0, 2, 1), (0, None, 1), (False, 0, 1), (0, 0, [0, 0, 1])]
        wrong += [(0, (0, 0, 1), 1), (0, 1, (0, 0, 1))]
    if n > 1:
        wrong += [(0, 0, (1, (0, 0, 1), 1)), (True, 0, 1), (1, (0, (1, 0, 1), 0), 1)]
    return Argument(good, errors.InvalidTree, wrong)


def several(n, good):
    """A tuple of 1 to 8 formulas."""
    wrong = NO_TUPLES + [(), good[0] + ((),) * 9, (None,), ([],), ((), None), (good[0], 5), ((),) * 9, list(good)]
    wrong += [(*good[:7], each) for each in formula(n, ()).wrong[-20:]]
    return Argument(good, errors.InvalidFormula, wrong)


def line(n, elder):
    """Values that are no line behind so many elder ones."""
    wrong = [None, True, 0, 10 ** 10, "", "and", (), [], {}, ["and", ()], ("and",), ("and", (), ()), ("nand", ())]
    wrong += [("letter", n, 1), ("letter", -1, 0), ("letter", None, 0), ("letter", 10 ** 10, 0), ("letter", 0)]
    wrong += [("ands", ())]
    wrong += [("or", (elder,)), ("or", (-1,)), ("or", (None,)), ("or", []), ("or", (10 ** 10,)), ("or", None)]
    wrong += [("or", 0)]
    wrong += [(None, ()), ((), ()), ([], ()), ("and", ((),)), ("and", ("0",)), ("letter", (), 1), ("and", {})]
    if n:
        wrong += [("letter", 0, 2), ("letter", 0, True), ("letter", False, 1), ("letter", 0, None), ["letter", 0, 1]]
        wrong += [("and", 0, 1), ("letters", 0, 1)]
    if elder:
        wrong += [("and", (0, 0)), ("and", (False,)), ("or", [0])]
    if elder > 1:
        wrong += [("or", (1, 0)), ("or", (0, True)), ("and", (0, 1, 1))]
    return wrong


def circuit(n, good):
    wrong = NO_TUPLES + [(), list(good), (("and", ()),) * 121, *[(*good, each) for each in line(n, len(good))]]
    wrong += [(each, *good) for each in line(n, 0)]
    wrong += [(("and", ()),) * 100 + (("or", tuple(range(65))),)]
    return Argument(good, errors.InvalidCircuit, wrong)


def layers(n, good):
    word, formulas, upper = good
    wrong = NO_TUPLES + [(), list(good), good[:2], (*good, ()), ("and", formulas, upper), (None, formulas, upper)]
    wrong += [([], formulas, upper), (word, list(formulas), upper), (word, formulas, list(upper)), (word, (), ())]
    wrong += [(word, None, upper), (word, formulas, None), (word, ((),) * 61, (((0,),),)), (word, ((), ()), ())]
    wrong += [(word, (each, *formulas[1:]), upper) for each in formula(n, ()).wrong[-20:]]
    wrong += [(word, ((),), (((0,),),) * 7), (word, ((),), (((0,),) * 61, ((0,),)))]
    wrong += [(word, ((), ()), (each,)) for each in (
        (), None, [()], ((),) * 2, ((2,),), ((0, 0),), ((1, 0),), ([0],), ((None,),), ((False,),), ((0, True),),
        ((-1,),), (0,),
        ((10 ** 10,),), 5, ("0",), {}, (("0",),),
    )]
    wrong += [(word, ((),), (((0,), (0,)), ((2,),))), (word, ((),), (((0,),), ((1,),)))]
    wrong += [(word, ((),), (((0,), (1,)), ((0, 1),))), (word, ((),), (((1,), (0,)), ((0, 1),)))]
    wrong += [(word, ((),), ((), ((),))), (word, ((),), (((),), (), ((),)))]
    return Argument(good, errors.InvalidCircuit, wrong)


def bush(n, good):
    wrong = [None, True, False, 2, -1, 10 ** 10, "", "0", "and", (), [], {}, [0, 1], ["and", 0, 1], (0,), (0, 0, 1)]
    wrong += [("and",), ("and", 0), ("and", 0, 1, 1), ("nor", 0, 1), ("and", 0, None), ("or", True, 0), ("or", 0, False)]
    wrong += [("and", 0, [0, 1]), ("or", 2, 0), (n, 1), (-1, 0), (None, 0), ("0", 1), (10 ** 10, 1), ((), 1), ([], 0)]
    wrong += [("ands", 0, 1), (0, 2), (0, None), (0, "1"), ("or", (n, 0), 1), (None, 0, 1), ([], 0, 1)]
    wrong += [chain(128), ("or", chain(64), chain(63))]
    if n:
        wrong += [(0, True), (False, 1), ("and", (0, 1), (0, True)), (0, 10 ** 10)]
    return Argument(good, errors.InvalidFormula, wrong)


def chain(many, leaf=0):
    """A bush of so many gates."""
    found = leaf
    for _ in range(many):
        found = ("and", found, leaf)
    return found


class Case(unittest.TestCase):
    def refuses(self, error, kept, function, *arguments):
        """Checks that the call raises just this error; one that keeps a value keeps just `kept`."""
        with self.assertRaises(errors.DeepError, msg=(function, arguments)) as caught:
            function(*arguments)
        self.assertIs(type(caught.exception), error, (function, arguments))
        names = {errors.InvalidNumber: "given", errors.TooMany: "most", errors.Refused: "reason"}
        if error in names:
            given = getattr(caught.exception, names[error])
            self.assertIs(type(given), type(kept), (function, arguments))
            self.assertEqual(given, kept)

    def checks(self, function, *arguments):
        """Checks each wrong argument alone, and two at once, the first of which is told."""
        goods = [argument.good for argument in arguments]
        function(*goods)
        for at, argument in enumerate(arguments):
            for wrong in argument.wrong:
                self.refuses(argument.error, wrong, function, *goods[:at], wrong, *goods[at + 1:])
        for (at, first), (later, second) in itertools.combinations(enumerate(arguments), 2):
            for wrong, too in itertools.product(*[each.wrong[:3] + each.wrong[-2:] for each in (first, second)]):
                call = list(goods)
                call[at], call[later] = wrong, too
                self.refuses(first.error, wrong, function, *call)

    def judges(self, function, *arguments):
        """The same of a function that judges a value, whatever the value is; and it takes every value."""
        self.checks(lambda *rest: function(*rest, JUNK[0]), *arguments)
        self.checks(lambda *rest: function(*rest, 1), *arguments)
        goods = [argument.good for argument in arguments]
        for value in JUNK:
            self.assertIn(function(*goods, value), (True, False), value)
            self.assertIs(type(function(*goods, value)), bool)

    def takes_just(self, function, arguments, right, others=()):
        """Checks that the right values are taken, and none of the others, nor of the right ones disguised."""
        for value in right:
            self.assertIs(function(*arguments, value), True, (arguments, value))
            for wrong in disguised(value):
                self.assertIs(function(*arguments, wrong), False, (arguments, wrong))
        for value in others:
            self.assertIs(function(*arguments, value), False, (arguments, value))
