import itertools
import random
import unittest

import reference
import support
from deepcodes import errors
from deepcodes.canon import canonical
from deepcodes.use import bench

CHANCE = random.Random(2323)


def term_word(term):
    return ",".join(("+" if bit else "-") + str(letter) for letter, bit in term) or "true"


class Told:
    """The bench once more, as the document tells it: each state is made of the lines anew."""

    def __init__(self, n):
        self.n, self.states = n, [((), (2,) * n)]

    def tell(self, line):
        """The reply; `None` in place of a line that is refused by InvalidOperation or TooMany."""
        word, *rest = line.split(" ")
        formula, restriction = self.states[-1]
        if word in ("term", "put", "drop"):
            terms = list(formula)
            if word == "drop":
                del terms[int(rest[0])]
            elif len(terms) == 64:
                return None
            else:
                at = int(rest[0]) if word == "put" else len(terms)
                terms.insert(at, self.term(rest[-1]))
            self.states.append((tuple(terms), restriction))
            return f"{len(terms)} terms, width {reference.width(terms)}"
        if word in ("tell", "free"):
            letter = int(rest[0])
            if (restriction[letter] == 2) == (word == "free"):
                return None
            member = int(rest[1]) if word == "tell" else 2
            self.states.append((formula, reference.told(restriction, [(letter, member)])))
            return f"{len(reference.free(self.states[-1][1]))} free letters"
        if word == "undo":
            if len(self.states) == 1:
                return None
            self.states.pop()
            return "undone"
        return self.asked(formula, restriction, word, rest)

    def term(self, word):
        words = word.split(",") if word != "true" else []
        return tuple((int(one[1:]), int(one[0] == "+")) for one in words)

    def asked(self, formula, restriction, word, rest):
        if word == "depth":
            return f"depth {reference.depth(reference.canonical(restriction, formula))}"
        if word == "value":
            return str(reference.formula_value(formula, tuple(int(sign) for sign in rest[0])))
        row = reference.deep_row(restriction, formula, int(rest[0]))
        if row is None:
            return f"tree below {rest[0]}"
        first, triples = reference.code(restriction, formula, row)
        words = ["code", "".join("01*"[member] for member in first)]
        return " ".join(words + [".".join(str(number) for number in triple) for triple in triples])


def random_line(n, many):
    """A line whose words have a meaning where there are so many terms."""
    word = CHANCE.choice(("term", "term", "put", "drop", "tell", "free", "depth", "code", "value", "undo"))
    if word in ("term", "put"):
        term = reference.random_term(CHANCE, n, CHANCE.randint(min(1, n), n))
        return f"term {term_word(term)}" if word == "term" else f"put {CHANCE.randint(0, many)} {term_word(term)}"
    if word == "drop" and many:
        return f"drop {CHANCE.randrange(many)}"
    if word in ("tell", "free") and n:
        letter = CHANCE.randrange(n)
        return f"free {letter}" if word == "free" else f"tell {letter} {CHANCE.randrange(2)}"
    if word == "code":
        return f"code {CHANCE.randint(0, min(10, n + 1))}"
    if word == "value":
        return "value " + "".join(CHANCE.choice("01") for _ in range(n))
    return "undo" if word == "undo" else "depth"


def state(some):
    return (some.n, some.formula, some.restriction, some.lines, len(some), str(some))


class TestBench(support.Case):
    """[22.3], [22.4]"""

    def fails(self, some, error, kept, line):
        """Checks that the line is refused so, and changes nothing."""
        before = state(some)
        with self.assertRaises(errors.DeepError, msg=line) as caught:
            some.tell(line)
        self.assertIs(type(caught.exception), error, line)
        if error in (errors.ParseError, errors.TooMany):
            given = caught.exception.at if error is errors.ParseError else caught.exception.most
            self.assertEqual((given, type(given)), (kept, type(kept)), line)
        self.assertEqual(state(some), before)

    def test_new_ones(self):
        for n in range(11):
            some = bench.Bench(n)
            self.assertEqual(state(some), (n, (), (2,) * n, (), 0, f"bench of {n} letters, 0 terms"))
        for wrong in support.letters(3).wrong:
            self.refuses(errors.InvalidNumber, wrong, bench.Bench, wrong)

    def test_replies(self):
        for n in (0, 1, 2, 3, 4, 5):
            for _ in range(12):
                some, told, lines = bench.Bench(n), Told(n), []
                for _ in range(60):
                    line = random_line(n, len(some))
                    reply = told.tell(line)
                    if reply is None:
                        self.fails(some, errors.InvalidOperation, None, line)
                        continue
                    self.assertEqual(some.tell(line), reply, (lines, line))
                    lines.append(line)
                    formula, restriction = told.states[-1]
                    self.assertEqual(state(some), (n, formula, restriction, tuple(lines), len(formula),
                                                   f"bench of {n} letters, {len(formula)} terms"))
                other = bench.Bench(n)
                for line in lines:
                    other.tell(line)
                self.assertEqual(state(other), state(some))
                # What can be taken back is alike, too.
                for _ in range(3):
                    if len(told.states) > 1:
                        told.tell("undo")
                        self.assertEqual([other.tell("undo"), some.tell("undo")], ["undone"] * 2)
                        self.assertEqual(state(other), state(some))

    def test_benches_are_apart(self):
        one, other = bench.Bench(2), bench.Bench(2)
        one.tell("term +0")
        self.assertEqual([len(one), len(other), other.lines], [1, 0, ()])
        self.fails(other, errors.InvalidOperation, None, "undo")

    def test_undo(self):
        some = bench.Bench(2)
        for line in ("term +0", "tell 1 0", "depth", "put 0 -1", "code 0", "drop 1", "free 1", "value 11"):
            some.tell(line)
        wanted = [(((1, 0),),), (((1, 0),), ((0, 1),)), (((0, 1),),), (((0, 1),),), ()]
        restrictions = [(2, 0), (2, 0), (2, 0), (2, 2), (2, 2)]
        for formula, restriction in zip(wanted, restrictions):
            self.assertEqual(some.tell("undo"), "undone")
            self.assertEqual((some.formula, some.restriction), (formula, restriction))
        self.fails(some, errors.InvalidOperation, None, "undo")
        self.assertEqual(len(some.lines), 13)
        self.assertEqual([some.tell("term true"), some.tell("undo"), len(some)], ["1 terms, width 0", "undone", 0])

    def test_no_letters(self):
        some = bench.Bench(0)
        replies = [some.tell(line) for line in ("depth", "value ", "code 0", "code 1", "term true", "value ", "code 0")]
        self.assertEqual(replies, ["depth 0", "0", "code ", "tree below 1", "1 terms, width 0", "1", "code "])
        self.fails(some, errors.ParseError, 1, "value")
        self.fails(some, errors.ParseError, 1, "value 0")
        self.fails(some, errors.ParseError, 1, "tell 0 0")
        self.fails(some, errors.ParseError, 1, "term +0")
        self.fails(some, errors.ParseError, 2, "value  ")

    def test_sixty_four_terms(self):
        some = bench.Bench(2)
        for _ in range(64):
            some.tell("term +0,-1")
        for line in ("term +0", "put 0 true", "put 64 -1"):
            self.fails(some, errors.TooMany, 64, line)
        self.fails(some, errors.ParseError, 1, "put 65 -1")
        self.fails(some, errors.ParseError, 2, "put 0 -2")
        self.assertEqual([some.tell("drop 63"), some.tell("put 63 +1")], ["63 terms, width 2", "64 terms, width 2"])

    def test_words(self):
        some = bench.Bench(3)
        for line in ("term +0,+1", "term -2", "tell 2 0"):
            some.tell(line)
        for line, at in (
            ("", 0), (" ", 0), ("terms +0", 0), ("TERM +0", 0), ("term", 1), ("term ", 1), (" term +0", 0), ("term  +0", 1),
            ("term +0 ", 2), ("term +0 +1", 2), ("term +1,+0", 1), ("term +0,+0", 1), ("term +3", 1), ("term +00", 1),
            ("term 0", 1), ("term +0,", 1), ("term true,+0", 1), ("term +0,true", 1), ("term True", 1), ("put", 1), ("put 0", 2),
            ("put 3 +0", 1), ("put 00 +0", 1), ("put 3", 1), ("put -1 +0", 1), ("put 2 +9", 2), ("put 2 +0 x", 3),
            ("put x y z", 1), ("drop", 1), ("drop 2", 1), ("drop -1", 1), ("drop 0 0", 2), ("drop +0", 1), ("tell", 1),
            ("tell 0", 2), ("tell 3 0", 1), ("tell 0 2", 2), ("tell 0 1 ", 3), ("tell 3 2", 1), ("tell 0  1", 2), ("free", 1),
            ("free 3", 1), ("free 2 1", 2), ("depth 1", 1), ("depth ", 1), ("code", 1), ("code 11", 1), ("code 01", 1),
            ("code -1", 1), ("code 3 3", 2), ("value", 1), ("value 01", 1), ("value 0101", 1), ("value 012", 1),
            ("value 010 ", 2), ("undo 1", 1), ("undo\n", 0), ("depth\n", 0), ("value 01*", 1), ("code 1000000000000", 1),
            ("value 0 1 0", 1), ("tell \u0660 1", 1), ("code \u00b2", 1), ("x" * 4000, 0), ("tell 2 2", 2), ("free 0 0", 2),
            ("tell 0\t1", 1), ("help", 0), ("9" * 4000, 0), ("drop " + "9" * 3990, 1), ("value \u0660\u0660\u0660", 1),
        ):
            self.fails(some, errors.ParseError, at, line)
        for line in ("tell 2 0", "tell 2 1", "free 0"):
            self.fails(some, errors.InvalidOperation, None, line)
        for value in [value for value in support.NO_TUPLES + [(), ("depth",)] if not isinstance(value, str)]:
            self.fails(some, errors.ParseError, None, value)
        empty = bench.Bench(2)
        for line in ("drop 0", "put 1 +0"):
            self.fails(empty, errors.ParseError, 1, line)

    def test_all_numbers_of_s(self):
        some = bench.Bench(10)
        some.tell("term " + ",".join(f"+{letter}" for letter in range(10)))
        self.assertEqual(some.tell("code 10").count("."), 20)
        self.assertEqual([some.tell("depth"), some.tell("code 0")], ["depth 10", "code **********"])
        some.tell("tell 9 0")
        self.assertEqual([some.tell(line) for line in ("depth", "code 10", "code 1")],
                         ["depth 0", "tree below 10", "tree below 1"])

    def test_terms_that_are_not_used(self):
        """They change no reply of `depth` and `value`."""
        for n in range(1, 4):
            for _ in range(25):
                formula = reference.random_formula(CHANCE, n, 6)
                one, other = bench.Bench(n), bench.Bench(n)
                for term in formula:
                    one.tell("term " + term_word(term))
                for term in canonical.shortened(n, formula):
                    other.tell("term " + term_word(term))
                for restriction in reference.restrictions(n):
                    told = [letter for letter in range(n) if restriction[letter] != 2]
                    lines = [f"tell {letter} {restriction[letter]}" for letter in told] + ["depth"]
                    lines += ["value " + "".join(map(str, row)) for row in reference.inputs(n)]
                    for line in lines:
                        self.assertEqual(one.tell(line), other.tell(line))
                    for _ in told:
                        self.assertEqual([one.tell("undo"), other.tell("undo")], ["undone"] * 2)

    def test_all_short_lines(self):
        """Of few words each line is done or refused, and what is refused changes nothing."""
        words = ["term", "put", "drop", "tell", "free", "depth", "code", "value", "undo", "0", "1", "+0", "true", "", "01"]
        for many in (1, 2, 3):
            for parts in itertools.product(words, repeat=many):
                some = bench.Bench(2)
                some.tell("term +1")
                before = state(some)
                line = " ".join(parts)
                try:
                    some.tell(line)
                    self.assertEqual(some.lines, ("term +1", line))
                except (errors.ParseError, errors.InvalidOperation) as error:
                    self.assertEqual(state(some), before)
                    if isinstance(error, errors.ParseError):
                        self.assertLessEqual(error.at, many)


if __name__ == "__main__":
    unittest.main()
