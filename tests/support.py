"""What the tests share: wrong values, and checks of the errors of arguments."""

import itertools
import unittest

from deepcodes import errors


def nested(wrap, depth=200):
    value = 0
    for _ in range(depth):
        value = wrap(value)
    return value


DEEP_VALUES = [
    nested(lambda value: (value,)), nested(lambda value: [value]), nested(lambda value: {0: value}),
    nested(lambda value: (0, value, value)), nested(lambda value: ("tree", value)),
    nested(lambda value: ((value, ()), 1)),
]
SHARED_TREE = 0
for letter in reversed(range(200)):
    SHARED_TREE = (letter, SHARED_TREE, SHARED_TREE)

# Values that are no right answer to anything but perhaps a tree, an input or a restriction.
JUNK = DEEP_VALUES + [
    None, True, False, 0, 1, 2, -1, 9, 10, 10 ** 9, 10 ** 10, -10 ** 10, 10 ** 100, 10 ** 1000, "", "0", "tree",
    "input", "sum", (), [], {}, ((),), ((0, 1),), [(0, 1)], ((0, 1), (0, 1)), (None,), (0,), (1,), (2,), (True,),
    (10 ** 10,), ("sum",), ("not sum",), ("within",), ("prime",), ("needless",), ("alike",), ("parts",), ["parts"],
    ("sum", 0), ("tree",), ("tree", None), ("tree", True), ("tree", [0, 0, 1]), ("tree", (0, 0, 1), 1),
    ("tree", (10 ** 10, 0, 1)), ["tree", 0], {"tree": 0}, ("input",), ("input", None), ("input", (None,)),
    ("input", (2,)), ("input", (10 ** 30,)), ("input", 0, 0), ("code", ()), ("code", None), ("code", ((), ())),
    ("code", ((), ((10 ** 20, 0, 1),))), ("code", ([], ())), ((), ((0, 0, 1),)), ((2,), ()), ((2,), [()]),
    ((1,), ((0, 0),)), ((1,), ((0, 0, True),)), ("row", 5), ("row", [()]), ("row", (None,)), ("row", ((0, 0), None)),
    ("letter", None), ("letter", 10 ** 30), ("letter", -1), ("letter", True), ("letter",), ("both", None),
    ("both", [2]), ("rest", [2]), ("rest", None), ("two", (), 0, 1), ("two", (0,), True, 1), ("two", (0,), 0),
    ("two", None, None, None), ("none", None), ("none", ()), ("kept", (0,), 0), ("kept", [], []), ("kept",),
    ("kept", (), None), ("plan", {}), ("plan", None), ("plan", {(): ()}), ("plan", {None: None}),
    ("plan", {(2,): [()]}), {(2,): ()}, {(2,): None}, {(2, 2): (0, 1)}, {None: 1}, {1: {}}, {"a": ()},
    {DEEP_VALUES[0]: ()}, ("tree", DEEP_VALUES[0]), ("tree", DEEP_VALUES[3]), ("code", (DEEP_VALUES[0], ())),
    ("tree", SHARED_TREE), SHARED_TREE, ((0, 1), DEEP_VALUES[0]), (DEEP_VALUES[0], DEEP_VALUES[1]),
    errors.InvalidNumber(3), (errors.InvalidTable("x"),), ("input", errors.TooMany(1)),
]

NO_NUMBERS = [
    True, False, None, "1", "", (1,), (), [], [1], {}, {1: 1}, 10 ** 9, 10 ** 10, -10 ** 10, 10 ** 99,
    errors.InvalidNumber(1),
]
NO_TUPLES = [
    None, True, False, 0, 1, 5, 10 ** 10, 10 ** 99, "", "01", [], [0], [0, 1], {}, {0: 1}, [[]], [(0, 1)],
    errors.DeepError("x"),
]


class Argument:
    """A good value for a parameter, the error of wrong ones, and some of these."""

    def __init__(self, good, error, wrong):
        self.good, self.error, self.wrong = good, error, wrong


def number(good, least, most):
    return Argument(good, errors.InvalidNumber, [least - 1, most + 1] + NO_NUMBERS)


def letters(good):
    return number(good, 0, 10)


def disguised(value):
    """Copies of a value with one 0 or 1 as a boolean, or with one tuple as a list: never right."""
    if isinstance(value, bool) or value is None or isinstance(value, str):
        return
    if isinstance(value, int):
        if value in (0, 1):
            yield bool(value)
        return
    if isinstance(value, dict):
        for key in value:
            for other in disguised(value[key]):
                yield {**value, key: other}
            for other in disguised(key):
                try:
                    hash(other)
                except TypeError:
                    continue
                yield {**{k: value[k] for k in value if k != key}, other: value[key]}
        return
    yield list(value)
    for at, part in enumerate(value):
        for other in disguised(part):
            yield (*value[:at], other, *value[at + 1:])


def row(good):
    n = len(good)
    wrong = NO_TUPLES + list(disguised(good)) + [(*good, 0), list(good), (0,) * (n + 2)]
    if n:
        wrong += [good[1:], (2, *good[1:]), (None, *good[1:]), (-1, *good[1:]), (*good[:-1], 10 ** 10)]
    return Argument(good, errors.InvalidInput, wrong)


def table(good, most=10):
    wrong = NO_TUPLES + list(disguised(good))[:9] + [(), good + good + good, list(good), (0,) * 2048]
    wrong += [(2, *good[1:]), (*good[:-1], -1), (*good[:-1], None), (*good[:-1], 10 ** 10), (0, 1, 0)]
    if most < 10:
        wrong += [(0,) * (2 << most)]
    return Argument(good, errors.InvalidTable, wrong)


def table_like(good):
    """A table of just as many letters."""
    argument = table(good)
    argument.wrong += [good + good] + ([good[::2]] if len(good) > 1 else [])
    return argument


def term(n, good):
    wrong = [None, True, 0, 10 ** 10, "", [], {}, [(0, 1)], ((0,),), ((0, 1, 1),), (0, 1), ((n, 1),), ((-1, 0),)]
    wrong += [(("0", 1),), ((None, 1),), ((10 ** 10, 1),), (([], 1),), ([0, 1],)]
    if n:
        wrong += [((0, 2),), ((0, True),), ((False, 1),), ((0, 1), (0, 1)), ((0, 0), (0, 1)), ((0, None),)]
    if n > 1:
        wrong += [((1, 0), (0, 1)), ((0, 1), (True, 1)), ((0, 1), [1, 1])]
    return Argument(good, errors.InvalidFormula, wrong)


def formula(n, good):
    wrong = NO_TUPLES + [(each,) for each in term(n, ()).wrong] + [((),) * 65, ((), None), (0,), ("",), [()], ((), [])]
    return Argument(good, errors.InvalidFormula, wrong)


def any_restriction(good):
    n = len(good)
    wrong = NO_TUPLES + [list(good), (2,) * 11, (3,) * n or (3,), (None,), (True,) * max(n, 1), ("2",), ((2,),), (-1,)]
    wrong += [(10 ** 10,), (*good[:-1], 3), (*good[:-1], False), (*good[:-1], -1)]
    return Argument(good, errors.InvalidRestriction, wrong)


def restriction(good):
    argument = any_restriction(good)
    argument.wrong += [(*good, 2), (*good, 0, 1)] + ([good[1:]] if good else [])
    return argument


def tree(n, good):
    wrong = [None, True, False, 2, -1, 10 ** 10, "", "0", (), [], {}, [0, 0, 1], (0, 0), (0, 0, 1, 1), (n, 0, 1)]
    wrong += [(-1, 0, 1), (None, 0, 1), ("0", 0, 1), (10 ** 10, 0, 1), ((), 0, 1), ([], 0, 1)]
    if n:
        wrong += [(0, True, 1), (0, 0, False), (0, 2, 1), (0, None, 1), (False, 0, 1), (0, 0, [0, 0, 1])]
        wrong += [(0, (0, 0, 1), 1), (0, 1, (0, 0, 1))]
    if n > 1:
        wrong += [(0, 0, (1, (0, 0, 1), 1)), (True, 0, 1), (1, (0, (1, 0, 1), 0), 1)]
    return Argument(good, errors.InvalidTree, wrong)


class Case(unittest.TestCase):
    def refuses(self, error, kept, function, *arguments):
        """Checks that the call raises just this error; one that keeps a value keeps just `kept`."""
        with self.assertRaises(errors.DeepError, msg=(function, arguments)) as caught:
            function(*arguments)
        self.assertIs(type(caught.exception), error, (function, arguments))
        names = {errors.InvalidNumber: "given", errors.TooMany: "most"}
        if error in names:
            given = getattr(caught.exception, names[error])
            self.assertIs(type(given), type(kept), (function, arguments))
            self.assertEqual(given, kept)

    def checks(self, function, *arguments):
        """Checks each wrong argument alone, and two at once, the first of which is told."""
        goods = [argument.good for argument in arguments]
        function(*goods)
        for at, argument in enumerate(arguments):
            for wrong in argument.wrong:
                self.refuses(argument.error, wrong, function, *goods[:at], wrong, *goods[at + 1:])
        for (at, first), (later, second) in itertools.combinations(enumerate(arguments), 2):
            for wrong, too in itertools.product(*[each.wrong[:3] + each.wrong[-2:] for each in (first, second)]):
                call = list(goods)
                call[at], call[later] = wrong, too
                self.refuses(first.error, wrong, function, *call)

    def judges(self, function, *arguments):
        """The same of a function that judges a value, whatever the value is; and it takes every value."""
        self.checks(lambda *rest: function(*rest, JUNK[0]), *arguments)
        self.checks(lambda *rest: function(*rest, 1), *arguments)
        goods = [argument.good for argument in arguments]
        for value in JUNK:
            self.assertIn(function(*goods, value), (True, False), value)
            self.assertIs(type(function(*goods, value)), bool)

    def takes_just(self, function, arguments, right, others=()):
        """Checks that the right values are taken, and none of the others, nor of the right ones disguised."""
        for value in right:
            self.assertIs(function(*arguments, value), True, (arguments, value))
            for wrong in disguised(value):
                self.assertIs(function(*arguments, wrong), False, (arguments, wrong))
        for value in others:
            self.assertIs(function(*arguments, value), False, (arguments, value))
