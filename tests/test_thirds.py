import itertools
import random
import unittest

import reference
import support
from deepcodes import errors
from deepcodes.circuits import circuits
from deepcodes.sums import blocks
from deepcodes.small import thirds

CHANCE = random.Random(2020)
BOTH = (("letter", 0, 1), ("letter", 1, 1), ("or", (0, 1)), ("and", (0, 1)))
LONE = ((), (), ((1, 1),), ((1, 1),))
MIXED = (
    ("letter", 0, 1), ("letter", 1, 0), ("thirds", (0, 1)), ("or", (0, 2)), ("letter", 2, 1), ("thirds", ()), ("and", ()),
    ("and", (2, 3, 4)), ("or", (5, 6, 7)), ("thirds", (3, 7, 8)),
)


def random_row(n):
    return tuple(CHANCE.randrange(3) for _ in range(2 ** n))


def random_polynomial(n, most=None):
    lots = [lot for lot in reference.lots(range(n)) if most is None or len(lot) <= most]
    CHANCE.shuffle(lots)
    return {lot: CHANCE.choice((1, 2)) for lot in lots[:CHANCE.randint(0, len(lots))]}


def agreeing(n, polynomial):
    rows = reference.inputs(n)
    return tuple(row for row in rows if reference.polynomial_value(polynomial, row) == reference.sum_of(row))


def degree(polynomial):
    return max([len(lot) for lot in polynomial], default=0)


def polynomial(good):
    wrong = support.NO_TUPLES + [(), ((), 1), {None: 1}, {(): 0}, {(): 3}, {(): True}, {(): None}, {(): "1"}, {0: 1}]
    wrong = [value for value in wrong if value != {}]
    wrong += [{(0, 0): 1}, {(1, 0): 1}, {(9,): 1}, {(-1,): 1}, {(True,): 1}, {(10 ** 10,): 1}, {(None,): 1}]
    wrong += [{**good, ("0",): 1}, {**good, (): 10 ** 10}, {**good, (0, 7): 2}]
    return support.Argument(good, errors.InvalidOperation, wrong)


def row(good):
    wrong = support.NO_TUPLES + [(), list(good), (*good, 0), (3, *good[1:]), (-1, *good[1:]), (*good[:-1], None)]
    wrong += [(*good[:-1], True), (*good[:-1], 10 ** 10), (*good[:-1], (0,)), good + good]
    return support.Argument(good, errors.InvalidOperation, [value for value in wrong if value != good])


def circuit(n, good):
    argument = support.circuit(n, good)
    size = len(good)
    argument.wrong += [(*good, ("thirds", each)) for each in (
        None, 0, [], (size,), (-1,), (0, 0), (True,), ("0",), (10 ** 10,), {}, ((),), (None,)
    )]
    argument.wrong += [(*good, ("third", ())), (*good, ("thirds",)), (*good, ("thirds", (), ())), (("thirds", (0,)),)]
    argument.wrong += [(("thirds", ()),) * 100 + (("thirds", tuple(range(65))),), (("thirds", ()),) * 121]
    return argument


def factors(circuit, good):
    """Factors for a circuit, all of one number of tuples."""
    wrong = support.NO_TUPLES + [(), list(good), (*good, ()), good[1:], (None,) * len(good), ((((),),),) * len(good)]
    for at, line in enumerate(circuit):
        ahead, behind = good[:at], good[at + 1:]
        bad = [None, 0, [], (None,), ((None,),), 10 ** 10]
        if line[0] in ("and", "or"):
            many, size = len(good[at]), len(line[1])
            bad += [(), (*good[at], (0,) * size), good[at][1:], list(good[at]), ((0,) * (size + 1),) * many]
            bad += [([0] * size,) * many, ((0,) * size,) * 5]
            if size:
                bad += [((3,) + (0,) * (size - 1),) * many, ((0,) * (size - 1) + (True,),) * many]
                bad += [((-1,) + (0,) * (size - 1),) * many, ((0,) * (size - 1),) * many]
        else:
            bad += [((),), (0,), ((0,),)]
        gates = len([other for other in circuit if other[0] in ("and", "or")])
        # With one gate alone another number of tuples is right, too.
        wrong += [(*ahead, each, *behind) for each in bad if gates > 1 or not is_fine(line, each)]
    return support.Argument(good, errors.InvalidOperation, wrong)


def is_fine(line, value):
    size = len(line[1]) if line[0] in ("and", "or") else None
    return size is not None and isinstance(value, tuple) and 1 <= len(value) <= 4 and all(
        isinstance(some, tuple) and len(some) == size for some in value
    ) and all(number in (0, 1, 2) and number is not True for some in value for number in some)


def some_circuits(n, many=25, lines=9):
    found = [(("thirds", ()),), (("and", ()),), (("or", ()),)]
    return found + [reference.random_thirds(CHANCE, n, CHANCE.randint(1, lines)) for _ in range(many)]


class TestPolynomials(support.Case):
    """[20.1]"""

    def test_there_and_back(self):
        for n in range(5):
            for _ in range(30):
                numbers = random_row(n)
                found = thirds.polynomial_of(n, numbers)
                self.assertEqual(reference.polynomial_row(n, found), numbers)
                self.assertEqual(thirds.row_of(n, found), numbers)
                self.assertEqual(list(found), sorted(found))
                self.assertTrue(thirds.is_polynomial(n, found))
                self.assertEqual(thirds.degree_of(n, found), degree(found))
                other = random_polynomial(n)
                self.assertEqual(thirds.row_of(n, other), reference.polynomial_row(n, other))
                self.assertEqual(thirds.polynomial_of(n, thirds.row_of(n, other)), other)

    def test_each_once(self):
        every = [thirds.row_of(1, {lot: number for lot, number in zip(((), (0,)), pair) if number})
                 for pair in itertools.product(range(3), repeat=2)]
        self.assertEqual(sorted(every), sorted(itertools.product(range(3), repeat=2)))

    def test_edges(self):
        self.assertEqual([thirds.polynomial_of(0, (0,)), thirds.polynomial_of(0, (2,))], [{}, {(): 2}])
        self.assertEqual([thirds.row_of(2, {}), thirds.degree_of(2, {}), thirds.degree_of(2, {(): 1})], [(0,) * 4, 0, 0])
        for n in range(11):
            odd = thirds.polynomial_of(n, reference.table_by(n, reference.sum_of))
            self.assertEqual(thirds.degree_of(n, odd), n)
            if n in (0, 3, 10):
                self.assertEqual(thirds.agreeing(n, odd), tuple(reference.inputs(n)))

    def test_is_polynomial(self):
        right = [{}, {(): 1}, {(0, 2): 2, (1,): 1}, {(1,): 1, (0, 2): 2}]
        self.takes_just(thirds.is_polynomial, (3,), right, polynomial({}).wrong)
        self.assertIs(thirds.is_polynomial(2, {(0, 2): 1}), False)
        for n in (0, 2, 10):
            self.judges(thirds.is_polynomial, support.letters(n))

    def test_arguments(self):
        for n, numbers in ((2, (0, 1, 2, 0)), (0, (1,)), (1, (2, 2))):
            self.checks(thirds.polynomial_of, support.letters(n), row(numbers))
        for n, good in ((2, {(0,): 1}), (3, {}), (1, {(): 2, (0,): 1})):
            for function in (thirds.row_of, thirds.degree_of, thirds.agreeing):
                self.checks(function, support.letters(n), polynomial(good))


class TestLow(support.Case):
    """[20.2]"""

    def test_agreeing(self):
        for n in range(5):
            for _ in range(30):
                found = random_polynomial(n, CHANCE.choice((None, 1, 2)))
                where = agreeing(n, found)
                self.assertEqual(thirds.agreeing(n, found), where)
                self.assertLessEqual(len(where), thirds.most_agreeing(n, degree(found)))
            for most in range(11):
                lots = [lot for lot in reference.lots(range(n)) if 2 * len(lot) <= n + most]
                self.assertEqual(thirds.most_agreeing(n, most), len(lots))
        self.assertEqual([thirds.most_agreeing(10, 0), thirds.most_agreeing(10, 10), thirds.most_agreeing(0, 0)],
                         [638, 1024, 1])

    def test_all_small_ones(self):
        """No polynomial agrees more often, and each row has a low one."""
        for pair in itertools.product(range(3), repeat=2):
            found = {lot: number for lot, number in zip(((), (0,)), pair) if number}
            where = agreeing(1, found)
            self.assertLessEqual(len(where), thirds.most_agreeing(1, degree(found)))
            for numbers in itertools.product(range(3), repeat=2):
                self.check_low(1, found, numbers)

    def check_low(self, n, found, numbers):
        low = thirds.low_polynomial(n, found, numbers)
        self.assertTrue(thirds.is_polynomial(n, low))
        self.assertEqual(list(low), sorted(low))
        self.assertLessEqual(degree(low), (n + degree(found)) // 2)
        values = reference.polynomial_row(n, low)
        for where in agreeing(n, found):
            self.assertEqual(reference.value(values, where), reference.value(numbers, where))
        return low

    def test_low_polynomials(self):
        for n in range(6):
            for most in range(n + 1):
                for _ in range(6):
                    found, numbers = random_polynomial(n, most), random_row(n)
                    low = self.check_low(n, found, numbers)
                    self.takes_just(thirds.is_low_polynomial, (n, found, numbers), [low])

    def test_judge(self):
        """All polynomials of few letters are judged by their values and their degree."""
        for n in (0, 1, 2):
            lots = reference.lots(range(n))
            every = [{lot: number for lot, number in zip(lots, some) if number}
                     for some in itertools.product(range(3), repeat=2 ** n)]
            for _ in range(12):
                found, numbers = random_polynomial(n), random_row(n)
                where = agreeing(n, found)
                for value in every:
                    values = reference.polynomial_row(n, value)
                    wanted = degree(value) <= (n + degree(found)) // 2
                    wanted = wanted and all(reference.value(values, at) == reference.value(numbers, at) for at in where)
                    self.assertIs(thirds.is_low_polynomial(n, found, numbers, value), wanted)

    def test_ten_letters(self):
        for found in ({}, {(0,): 1}, {(v,): 1 for v in range(10)}, random_polynomial(10, 3)):
            self.check_low(10, found, random_row(10))

    def test_arguments(self):
        for n, found, numbers in ((2, {(0,): 1}, (0, 1, 2, 2)), (0, {(): 1}, (2,)), (2, {(0, 1): 2}, (0,) * 4)):
            arguments = (support.letters(n), polynomial(found), row(numbers))
            self.checks(thirds.low_polynomial, *arguments)
            self.judges(thirds.is_low_polynomial, *arguments)
        self.checks(thirds.most_agreeing, support.letters(4), support.number(1, 0, 10))


class TestCircuits(support.Case):
    """[20.3]"""

    def test_tables(self):
        for n in range(5):
            for lines in some_circuits(n):
                self.assertIs(thirds.is_circuit(n, lines), True)
                self.assertEqual(thirds.table_of(n, lines), reference.thirds_table(n, lines))
                if not any(line[0] == "thirds" for line in lines):
                    self.assertEqual(thirds.table_of(n, lines), circuits.circuit_table(n, lines))
        seven = tuple(("letter", v, 1) for v in range(7)) + (("thirds", tuple(range(7))),)
        self.assertEqual(thirds.table_of(7, seven), reference.table_by(7, lambda at: int(sum(at) % 3 != 0)))

    def test_is_circuit(self):
        for n, good in ((2, BOTH), (3, MIXED), (0, (("thirds", ()),))):
            self.takes_just(thirds.is_circuit, (n,), [good], circuit(n, good).wrong)
            self.judges(thirds.is_circuit, support.letters(n))
        self.assertIs(thirds.is_circuit(1, MIXED), False)
        self.assertIs(thirds.is_circuit(0, (("thirds", ()),) * 120), True)
        lot = (("or", ()),) * 64 + (("thirds", tuple(range(64))),)
        self.assertIs(thirds.is_circuit(0, lot), True)

    def test_polynomials(self):
        for n in range(4):
            for lines in some_circuits(n):
                for rounds in (1, 2, 4):
                    some = reference.random_factors(CHANCE, lines, rounds)
                    found = thirds.polynomials(n, lines, some)
                    self.assertEqual(found, tuple(reference.line_polynomials(lines, some)))
                    self.assertTrue(all(list(one) == sorted(one) for one in found))
                    self.assertEqual(thirds.charged(n, lines, some),
                                     tuple(charges for charges, _ in reference.line_charges(n, lines, some)))
                    for line, one in zip(lines, found):
                        self.assertTrue(set(thirds.row_of(n, one)) <= {0, 1})
                        below = max([degree(found[at]) for at in line[1]] or [0]) if line[0] != "letter" else 1
                        most = {"letter": 1, "thirds": 2}.get(line[0], 2 * rounds)
                        self.assertLessEqual(degree(one), most * below)

    def test_arguments(self):
        for n, lines, some in (
            (2, BOTH, LONE), (3, MIXED, reference.random_factors(CHANCE, MIXED, 2)), (0, (("thirds", ()),), ((),)),
            (1, (("or", ()), ("letter", 0, 1)), (((), ()), ())),
        ):
            self.checks(thirds.table_of, support.letters(n), circuit(n, lines))
            arguments = (support.letters(n), circuit(n, lines), factors(lines, some))
            for function in (thirds.polynomials, thirds.charged, thirds.sum_answer):
                self.checks(function, *arguments)
            self.judges(thirds.is_sum_answer, *arguments)

    def test_limit(self):
        """The lines and the members of all lots, times 2 ** n, behind all other errors."""
        judge = lambda n, lines, rounds: thirds.are_good(n, lines, rounds, None)
        other_judge = lambda n, lines, some: thirds.is_sum_answer(n, lines, some, None)
        for n, many in ((10, 58), (9, 117), (8, 234), (5, 1875)):
            lines = sized(many)
            for lines, is_great in ((lines, False), (sized(many + 1), True)):
                some = tuple(((0,) * len(line[1]),) if line[0] == "or" else () for line in lines)
                calls = [(thirds.table_of, (n, lines)), (thirds.polynomials, (n, lines, some))]
                calls += [(thirds.charged, (n, lines, some)), (thirds.sum_answer, (n, lines, some))]
                calls += [(function, (n, lines, 1)) for function in (thirds.good_factors, judge)]
                calls += [(other_judge, (n, lines, some))]
                for function, call in calls:
                    if is_great:
                        self.refuses(errors.TooMany, 60000, function, *call)
                    else:
                        function(*call)
                self.refuses(errors.InvalidNumber, 5, thirds.good_factors, n, lines, 5)
                self.refuses(errors.InvalidNumber, 5, judge, n, lines, 5)
                for function in (thirds.polynomials, thirds.charged, thirds.sum_answer, other_judge):
                    self.refuses(errors.InvalidOperation, None, function, n, lines, some[1:])


def made_of_thirds(sets, word):
    """A circuit of three letters with a gate at last over lines that are 1 at the inputs with these numbers."""
    lines = [("letter", v, b) for v in range(3) for b in (0, 1)] + [("and", ()), ("and", ())]

    def line(*lot):
        lines.append(("thirds", tuple(sorted(lot))))
        return len(lines) - 1

    points = []
    for number in range(8):
        # 1 but where all three bits are right, and so the other way round.
        unlike = [2 * v + 1 - (number >> v & 1) for v in range(3)]
        points.append(line(line(line(*unlike[:2]), unlike[2]), 6, 7))
    members = []
    for numbers in sets:
        found = line()
        for number in sorted(numbers):
            found = line(found, points[number])
        members.append(found)
    return (*lines, (word, tuple(members)))


def sized(many):
    """A circuit whose lines and members come to so many."""
    lines = [("letter", 0, 1)]
    rest = many - 1
    while rest:
        size = min(len(lines), rest - 1, 25)
        lines.append(("or", tuple(range(size))))
        rest -= 1 + size
    return tuple(lines)


class TestGood(support.Case):
    """[20.4]"""

    def is_good(self, n, lines, rounds, some):
        pairs = reference.line_charges(n, lines, some)
        return all(len(charges) * 3 ** rounds <= len(doubtful) for charges, doubtful in pairs)

    def test_good_factors(self):
        for n in range(5):
            for lines in some_circuits(n):
                for rounds in (1, 2, 3, 4):
                    found = thirds.good_factors(n, lines, rounds)
                    self.assertTrue(self.is_good(n, lines, rounds, found))
                    self.assertIs(thirds.are_good(n, lines, rounds, found), True)
                    for some, line in zip(found, lines):
                        self.assertEqual(len(some), rounds if line[0] in ("and", "or") else 0)

    def test_great_ones(self):
        for n, width in ((10, 8), (7, 20), (3, 60)):
            letters = tuple(("letter", v % n, v % 2) for v in range(width))
            lots = [tuple(range(width)), tuple(range(0, width, 2)), tuple(range(0, width, 3))]
            lines = letters + tuple((word, lot) for word, lot in zip(("or", "and", "or"), lots))
            lines += (("and", (width, width + 1, width + 2)),)
            for rounds in (1, 4):
                found = thirds.good_factors(n, lines, rounds)
                self.assertIs(thirds.are_good(n, lines, rounds, found), True)
                if n < 10:
                    self.assertTrue(self.is_good(n, lines, rounds, found))

    def test_line_upon_line(self):
        """Lots of lines some of whose inputs are charged: their polynomials count, not their values."""
        for n in (5, 6, 7):
            for _ in range(40):
                lines = self.wide_lines(n)
                for rounds in (1, 2):
                    found = thirds.good_factors(n, lines, rounds)
                    self.assertTrue(self.is_good(n, lines, rounds, found))
                    self.assertIs(thirds.are_good(n, lines, rounds, found), True)

    def test_told_lines(self):
        """Here the values in place of the polynomials would lead to factors that are not good."""
        letters = [tuple(("letter", v, 1) for v in range(n)) for n in range(6)]
        for n, lines in (
            (3, (("or", (0, 1, 2)), ("thirds", (2, 3)), ("and", (3, 4)), ("and", (1, 2, 4)))),
            (4, (("thirds", (0, 1, 2)), ("or", (0, 2, 3, 4)), ("and", (4, 5)), ("and", (4, 6)), ("or", (0, 2, 3, 5, 7)))),
            (5, (("or", (0, 4)), ("or", (0, 1, 2, 4, 5)), ("and", (5, 6)))),
        ):
            lines = letters[n] + lines
            for rounds in (1, 2, 3, 4):
                found = thirds.good_factors(n, lines, rounds)
                self.assertTrue(self.is_good(n, lines, rounds, found))
                self.assertIs(thirds.are_good(n, lines, rounds, found), True)

    def test_any_lots(self):
        """A gate over lines with any values, which are made of thirds alone, so that none of them is charged."""
        every = range(8)
        some = [[CHANCE.sample(every, CHANCE.randint(0, 8)) for _ in range(CHANCE.randint(1, 5))] for _ in range(60)]
        # Three inputs come with the sum 0, three with the sum 2, to a number that no other one is behind.
        some += [[[0, 2, 3, 4], [1, 2, 3, 4], [2, 3, 4, 5, 6, 7]], [[0, 5, 6, 7], [1, 5, 6, 7], [2, 3, 4, 5, 6, 7]]]
        some += [[[1, 2], [0, 1, 2, 3, 6], [1, 2, 3, 5, 7], [2, 4]], [[3, 4, 5, 6], [2, 4, 6], [0, 1, 4, 6], [4, 7]]]
        for sets, word in itertools.product(some, ("or", "and")):
            lines = made_of_thirds([at if word == "or" else set(every) - set(at) for at in sets], word)
            for rounds in (1, 2):
                found = thirds.good_factors(3, lines, rounds)
                self.assertTrue(self.is_good(3, lines, rounds, found), (sets, word))
                self.assertIs(thirds.are_good(3, lines, rounds, found), True)

    def wide_lines(self, n):
        lines = [("letter", v, b) for v in range(n) for b in (0, 1)]
        for _ in range(9):
            lot = sorted(CHANCE.sample(range(len(lines)), CHANCE.randint(2, 7)))
            lines.append((CHANCE.choice(("and", "or", "and", "or", "thirds")), tuple(lot)))
        return tuple(lines)

    def test_are_good(self):
        for n in range(4):
            for lines in some_circuits(n, 15, 6):
                for rounds in (1, 2, 3):
                    for _ in range(3):
                        some = reference.random_factors(CHANCE, lines, rounds)
                        wanted = self.is_good(n, lines, rounds, some)
                        self.assertIs(thirds.are_good(n, lines, rounds, some), wanted)
                    gates = [line for line in lines if line[0] in ("and", "or")]
                    found = thirds.good_factors(n, lines, rounds)
                    self.takes_just(thirds.are_good, (n, lines, rounds), [found])
                    if gates:
                        self.assertIs(thirds.are_good(n, lines, rounds + 1, found), False)

    def test_all_tuples(self):
        """A third of all tuples is wrong at each doubtful input."""
        lines = BOTH[:3]
        wrong = {at: 0 for at in reference.inputs(2)}
        for numbers in itertools.product(range(3), repeat=2):
            for at in thirds.charged(2, lines, ((), (), (numbers,)))[2]:
                wrong[at] += 1
        self.assertEqual(wrong, {(0, 0): 0, (1, 0): 3, (0, 1): 3, (1, 1): 3})

    def test_one_gate_with_another_number(self):
        lines = BOTH[:3]
        for many in (1, 2, 3, 4):
            some = ((), (), ((1, 1),) * many)
            self.assertEqual(thirds.charged(2, lines, some), ((), (), ()))
            for rounds in (1, 2, 3, 4):
                self.assertIs(thirds.are_good(2, lines, rounds, some), many == rounds)

    def test_unlike_numbers_of_tuples(self):
        for function in (thirds.charged, thirds.polynomials, thirds.sum_answer):
            self.refuses(errors.InvalidOperation, None, function, 2, BOTH, ((), (), ((1, 1),), ((1, 1), (1, 1))))

    def test_arguments(self):
        for n, lines in ((2, BOTH), (3, MIXED), (0, (("thirds", ()),))):
            arguments = (support.letters(n), circuit(n, lines), support.number(2, 1, 4))
            self.checks(thirds.good_factors, *arguments)
            self.judges(thirds.are_good, *arguments)


class TestSums(support.Case):
    """[20.5]"""

    def test_answers(self):
        kinds = set()
        for n in range(4):
            for lines in some_circuits(n, 20) + ([self.sum_lines(n)] if n else []):
                some = reference.random_factors(CHANCE, lines, CHANCE.choice((1, 2)))
                table = reference.thirds_table(n, lines)
                rows = reference.inputs(n)
                wrong = [("input", at) for at in rows if reference.value(table, at) != reference.sum_of(at)]
                counts = tuple(len(charges) for charges, _ in reference.line_charges(n, lines, some))
                answer = thirds.sum_answer(n, lines, some)
                kinds.add(answer[0])
                others = [("input", at) for at in rows if ("input", at) not in wrong] + [("charged", counts[1:])]
                others += [("charged", (counts[0] + 1, *counts[1:])), ("charged", counts, ())]
                if wrong:
                    self.assertIn(answer, wrong)
                    self.takes_just(thirds.is_sum_answer, (n, lines, some), wrong, others + [("charged", counts)])
                else:
                    self.assertEqual(answer, ("charged", counts))
                    self.takes_just(thirds.is_sum_answer, (n, lines, some), [answer], others)
        self.assertEqual(kinds, {"input", "charged"})

    def sum_lines(self, n):
        return blocks.sum_circuit(n, blocks.least_sizes(n, 1) if n > 1 else ())

    def test_each_wrong_input_is_charged(self):
        """A circuit that is the sum, by good factors and by any other ones."""
        for n, sizes in ((1, ()), (2, (2,)), (3, (3,)), (4, (2, 2)), (5, (5,)), (6, (2, 3)), (10, (3, 4))):
            lines = blocks.sum_circuit(n, sizes)
            if (len(lines) + sum(len(line[1]) for line in lines if line[0] != "letter")) * 2 ** n > 60000:
                continue
            for rounds in (1, 2):
                for some in (thirds.good_factors(n, lines, rounds), reference.random_factors(CHANCE, lines, rounds)):
                    word, counts = thirds.sum_answer(n, lines, some)
                    self.assertEqual(word, "charged")
                    last = thirds.polynomials(n, lines, some)[-1]
                    most = thirds.most_agreeing(n, min(10, degree(last)))
                    self.assertGreaterEqual(sum(counts), 2 ** n - most)

    def test_without_charges(self):
        """Where no line is charged the last polynomial has the circuit's value."""
        for n in range(4):
            for lines in some_circuits(n):
                some = reference.random_factors(CHANCE, lines, 1)
                there = {at for charges in thirds.charged(n, lines, some) for at in charges}
                values = thirds.row_of(n, thirds.polynomials(n, lines, some)[-1])
                table = thirds.table_of(n, lines)
                for at in reference.inputs(n):
                    if at not in there:
                        self.assertEqual(reference.value(values, at), reference.value(table, at))


class TestNotTrue(support.Case):
    """[20.6]"""

    def test_more_tuples_leave_fewer(self):
        """More tuples, not those of before and others, can leave more charged."""
        few = thirds.charged(2, BOTH[:3], ((), (), ((1, 1),)))
        more = thirds.charged(2, BOTH[:3], ((), (), ((0, 0), (0, 1))))
        self.assertEqual([len(few[2]), len(more[2])], [0, 1])


if __name__ == "__main__":
    unittest.main()
