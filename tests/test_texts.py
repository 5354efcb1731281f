import random
import re
import unittest

import reference
import support
from deepcodes import errors
from deepcodes.canon import codes
from deepcodes.use import texts

CHANCE = random.Random(2222)
PARTS = (
    ("letter", 0, 1), ("letter", 0, 0), ("letter", 1, 1), ("letter", 1, 0), ("and", (0, 3)), ("and", (1, 2)),
    ("or", (4, 5)),
)
NO_TEXTS = [value for value in support.NO_TUPLES + [(), ("0\n",), ["0\n"]] if not isinstance(value, str)]
NUMBER = "(0|[1-9][0-9]*)"


def told_lines(text):
    """The lines of a text, and whether the last one lacks its end."""
    lines = text.split("\n")
    return lines[:-1] + ([lines[-1]] if lines[-1] else []), bool(lines[-1])


def formula_line(n, line):
    """Whether the line is that of a term, by its words."""
    if line == "true":
        return True
    words = line.split(" ")
    if not all(re.fullmatch("[-+]" + NUMBER, word) for word in words):
        return False
    letters = [int(word[1:]) for word in words]
    return letters == sorted(set(letters)) and letters[-1] < n


def circuit_line(n, elder, line):
    told = re.fullmatch(f"letter {NUMBER} ([01])", line)
    if told:
        return int(told.group(1)) < n
    told = re.fullmatch(f"(and|or) (-|{NUMBER}(,{NUMBER})*)", line)
    if not told:
        return False
    lot = [int(word) for word in told.group(2).split(",")] if told.group(2) != "-" else []
    return lot == sorted(set(lot)) and all(at < elder for at in lot) and len(lot) <= 64


def wrong_formula(n, text):
    """The place of the ParseError, None for a right text."""
    lines, is_cut = told_lines(text)
    for index, line in enumerate(lines):
        if index >= 64 or not formula_line(n, line) or (is_cut and index == len(lines) - 1):
            return index
    return None


def wrong_restriction(text):
    lines, is_cut = told_lines(text)
    if not lines or is_cut and len(lines) == 1 or not re.fullmatch("[01*]{0,10}", lines[0]):
        return 0
    return 1 if len(lines) > 1 else None


def wrong_circuit(n, text):
    lines, is_cut = told_lines(text)
    for index, line in enumerate(lines):
        if index >= 120 or not circuit_line(n, index, line) or (is_cut and index == len(lines) - 1):
            return index
    return None if lines else 0


def wrong_code(text):
    lines, is_cut = told_lines(text)
    if wrong_restriction(text) == 0:
        return 0
    for index, line in enumerate(lines[1:], 1):
        if index > 10 or not re.fullmatch("[0-9] [01] [01]", line) or (is_cut and index == len(lines) - 1):
            return index
    return None


def wrong_tree(n, text):
    """By the ways that still lack a tree: each is the tuple of the letters asked above."""
    lines, is_cut = told_lines(text)
    lacking = [()]
    for index, line in enumerate(lines):
        told = re.fullmatch("ask " + NUMBER, line)
        if not lacking or (is_cut and index == len(lines) - 1) or not (told or line in ("0", "1")):
            return index
        asked = lacking.pop()
        if told:
            letter = int(told.group(1))
            if letter >= n or letter in asked:
                return index
            lacking += [(*asked, letter)] * 2
    return len(lines) if lacking else None


def spoiled(text):
    """Texts that are a little unlike this one."""
    found = [text + "\n", text + "0\n", text + "true\n", text + " ", text + "or -\n", "\n" + text, " " + text, text[:-1]]
    found += [text.replace(" ", "  ", 1), text.replace("\n", " \n", 1), text.replace("\n", "\n\n", 1), text + text]
    found += [text.replace("0", "00", 1), text.replace("1", "01", 1), text.replace("0", "10", 1), text.upper()]
    found += [text.replace(",", ", ", 1), text.replace("+", "", 1), text.replace("\n", "\r\n", 1), text.replace("1", "2", 1)]
    found += [text.replace(",", ",,", 1), text.replace("0", "\u0660", 1), text.replace("1", "\u00b2", 1)]
    for _ in range(12):
        at = CHANCE.randrange(len(text) + 1)
        sign = CHANCE.choice("0123459+-*, \nat")
        found += [text[:at] + sign + text[at:], text[:at] + sign + text[at + 1:], text[:at] + text[at + 1:]]
    lines = text.split("\n")
    if len(lines) > 2:
        CHANCE.shuffle(lines)
        found += ["\n".join(lines), "\n".join(lines) + "\n"]
    return found


class TestTexts(support.Case):
    """[22.1], [22.2]"""

    def reads(self, read, wrong, text, arguments, value=None):
        """Checks that the text, and texts like it, are read just if they are right."""
        if value is not None:
            self.assertEqual(read(*arguments, text), value)
        for other in [text, *spoiled(text)]:
            place = wrong(*arguments, other)
            if place is None:
                self.assertEqual(self.told(read, arguments, other), other)
            else:
                self.fails(read, place, *arguments, other)

    def told(self, read, arguments, text):
        """The text of what was read."""
        tell = {
            texts.read_formula: texts.formula_text, texts.read_restriction: texts.restriction_text,
            texts.read_circuit: texts.circuit_text, texts.read_tree: texts.tree_text, texts.read_code: texts.code_text,
        }[read]
        return tell(*arguments, read(*arguments, text))

    def fails(self, read, place, *arguments):
        with self.assertRaises(errors.ParseError, msg=(read, arguments)) as caught:
            read(*arguments)
        self.assertEqual((caught.exception.at, type(caught.exception.at)), (place, type(place)), (read, arguments))

    def test_formulas(self):
        for n in (0, 1, 2, 3, 10):
            for formula in reference.some_formulas(n, 12, 91):
                lines = [
                    " ".join(("+" if bit else "-") + str(letter) for letter, bit in term) or "true" for term in formula
                ]
                text = "".join(line + "\n" for line in lines)
                self.assertEqual(texts.formula_text(n, formula), text)
                self.reads(texts.read_formula, wrong_formula, text, (n,), formula)
        self.assertEqual([texts.formula_text(3, ()), texts.read_formula(0, ""), texts.read_formula(0, "true\n")],
                         ["", (), ((),)])

    def test_many_terms(self):
        line = "+0 -9\n"
        self.assertEqual(len(texts.read_formula(10, line * 64)), 64)
        self.fails(texts.read_formula, 64, 10, line * 65)
        self.fails(texts.read_formula, 64, 10, line * 70)
        self.fails(texts.read_formula, 3, 10, line * 3 + "-\n" + line * 70)

    def test_terms(self):
        for line in ("+0 +0", "+1 +0", "+0 -0", "+3", "+03", "0", "+", "-", "+0,+1", "+0 true", "true ", "True", "",
                     "+0 ", " +0", "+0  +1", "+-0", "++0", "+ 0", "+1000000000000000000000", "+0\t+1", "*0", "0+"):
            self.fails(texts.read_formula, 1, 3, "true\n" + line + "\ntrue\n")
        self.fails(texts.read_formula, 0, 3, "+0")
        self.fails(texts.read_formula, 1, 3, "+0\n+1")
        self.fails(texts.read_formula, 0, 0, "+0\n")
        self.fails(texts.read_formula, 0, 3, "9" * 4000 + "\n")

    def test_restrictions(self):
        for n in range(4):
            for restriction in reference.restrictions(n):
                text = "".join("01*"[member] for member in restriction) + "\n"
                self.assertEqual(texts.restriction_text(restriction), text)
                self.reads(texts.read_restriction, wrong_restriction, text, (), restriction)
        self.assertEqual([texts.restriction_text(()), texts.read_restriction("\n")], ["\n", ()])
        self.assertEqual(texts.read_restriction("*" * 10 + "\n"), (2,) * 10)
        for text, place in (("", 0), ("*", 0), ("*" * 11 + "\n", 0), ("2\n", 0), ("* 1\n", 0), ("*\n\n", 1), ("*\n0", 1),
                            ("\n\n\n", 1), ("x\n\n", 0)):
            self.fails(texts.read_restriction, place, text)

    def test_circuits(self):
        for n in range(4):
            for _ in range(20):
                circuit = reference.random_circuit(CHANCE, n, CHANCE.randint(1, 12))
                lines = []
                for line in circuit:
                    lot = ",".join(str(at) for at in line[1]) if line[0] != "letter" else None
                    lines.append(f"{line[0]} {lot or '-'}" if line[0] != "letter" else f"letter {line[1]} {line[2]}")
                text = "".join(line + "\n" for line in lines)
                self.assertEqual(texts.circuit_text(n, circuit), text)
                self.reads(texts.read_circuit, wrong_circuit, text, (n,), circuit)

    def test_circuit_lines(self):
        for line in ("letter 2 1", "letter 0 2", "letter 0", "letter 0 1 ", "letter 00 1", "and 1", "and 0,0", "or 0,",
                     "or ,0", "or", "or ", "and -,0", "and 0 0", "nand 0", "and -1", "thirds 0", "letter -1 0", "", "or 00",
                     "or 0, 0", "AND -", "letter 0,1", "and 1000000000000000000000", "letter", "-", "or -0"):
            self.fails(texts.read_circuit, 1, 2, "or -\n" + line + "\nor -\n")
        self.fails(texts.read_circuit, 0, 2, "")
        self.fails(texts.read_circuit, 0, 2, "or -")
        self.fails(texts.read_circuit, 0, 2, "or 0\n")
        self.fails(texts.read_circuit, 2, 2, "or -\nor -\nor 1,0\n")
        self.fails(texts.read_circuit, 0, 0, "letter 0 1\n")

    def test_great_circuits(self):
        many = "or -\n" * 119
        lot = ",".join(str(at) for at in range(55, 119))
        self.assertEqual(texts.read_circuit(0, many + f"and {lot}\n")[-1], ("and", tuple(range(55, 119))))
        self.fails(texts.read_circuit, 119, 0, many + f"and 54,{lot}\n")
        self.fails(texts.read_circuit, 120, 0, many + "or -\n" * 2)
        self.fails(texts.read_circuit, 120, 0, many + "or -\nor")
        self.fails(texts.read_circuit, 119, 0, many + "or 119\nor -\n")

    def test_trees(self):
        for n in range(4):
            for _ in range(25):
                tree = reference.random_tree(CHANCE, list(range(n)), CHANCE.choice((0, 0.2, 0.4)))
                text = self.tree_lines(tree)
                self.assertEqual(texts.tree_text(n, tree), text)
                self.reads(texts.read_tree, wrong_tree, text, (n,), tree)
                lines = text.split("\n")[:-1]
                for many in range(len(lines)):
                    self.fails(texts.read_tree, many, n, "".join(line + "\n" for line in lines[:many]))

    def tree_lines(self, tree):
        if not isinstance(tree, tuple):
            return f"{tree}\n"
        return f"ask {tree[0]}\n" + self.tree_lines(tree[1]) + self.tree_lines(tree[2])

    def test_tree_lines(self):
        for text, place in (
            ("", 0), ("0", 0), ("0\n1\n", 1), ("0\n1", 1), ("ask 0\n0\n1\n0\n", 3), ("ask 0\nask 0\n0\n0\n0\n", 1),
            ("ask 0\n0\nask 0\n0\n0\n", 2), ("ask 2\n0\n0\n", 0), ("ask 0\n0\n", 2), ("ask 0\n0", 1), ("ask  0\n0\n0\n", 0),
            ("ask 0\n2\n", 1), ("ask\n0\n0\n", 0), ("ask 0 \n", 0), ("00\n", 0), ("ask 00\n0\n0\n", 0), ("0\n\n", 1),
            ("ask 0\n0\nask 1\n1\n", 4), ("ask 0\n0 1\n", 1), ("x", 0),
        ):
            self.fails(texts.read_tree, place, 2, text)
        self.assertEqual(texts.read_tree(2, "ask 1\nask 0\n0\n1\nask 0\n1\n0\n"), (1, (0, 0, 1), (0, 1, 0)))

    def test_codes(self):
        for n in range(4):
            for formula in reference.some_formulas(n, 6, 92):
                for restriction in reference.restrictions(n):
                    for s in range(n + 1):
                        code = codes.code_of(restriction, formula, s)
                        if code is None:
                            continue
                        text = "".join("01*"[member] for member in code[0]) + "\n"
                        text += "".join(f"{place} {answer} {end}\n" for place, answer, end in code[1])
                        self.assertEqual(texts.code_text(code), text)
                        self.assertEqual(texts.read_code(text), code)
                        if CHANCE.random() < 0.1:
                            self.reads(texts.read_code, wrong_code, text, (), code)

    def test_code_lines(self):
        self.assertEqual([texts.code_text(((), ())), texts.read_code("\n")], ["\n", ((), ())])
        ten = "0*\n" + "9 0 1\n" * 10
        self.assertEqual(texts.read_code(ten), ((0, 2), ((9, 0, 1),) * 10))
        for text, place in (
            ("", 0), ("*", 0), ("0 1 1\n", 0), ("*\n10 0 1\n", 1), ("*\n0 2 1\n", 1), ("*\n0 1 2\n", 1), ("*\n0 1\n", 1),
            ("*\n0 1 1 1\n", 1), ("*\n00 1 1\n", 1), ("*\n0  1 1\n", 1), ("*\n0 1 1\n\n", 2), ("*\n0 1 1", 1), ("*\n\n", 1),
            (ten + "0 0 0\n", 11), (ten + "0 0 0", 11), ("3\n0 2 1\n", 0), ("*" * 11 + "\n", 0), ("*\n-1 0 0\n", 1),
        ):
            self.fails(texts.read_code, place, text)

    def test_arguments(self):
        number, restriction = support.letters, support.any_restriction((2, 0, 1))
        formula = (((0, 1), (1, 0)), ())
        self.checks(texts.formula_text, number(3), support.formula(3, formula))
        self.checks(texts.formula_text, number(0), support.formula(0, ((),)))
        self.checks(texts.restriction_text, restriction)
        self.checks(texts.restriction_text, support.any_restriction(()))
        self.checks(texts.circuit_text, number(2), support.circuit(2, PARTS))
        self.checks(texts.tree_text, number(2), support.tree(2, (0, 0, (1, 0, 1))))
        good = ((1, 2), ((0, 0, 1), (9, 1, 0)))
        bad = support.NO_TUPLES + list(support.disguised(good)) + [(), ((2,) * 11, ()), ((3,), ()), ((), ((10, 0, 1),))]
        bad += [((), ((0, 2, 1),)), ((), ((0, 0, 2),)), ((), ((-1, 0, 1),)), ((), ((0, 0),)), ((), ((0, 0, 1, 1),))]
        bad += [((), ((0, 0, 1),) * 11), (good,), (*good, ()), (good[1], good[0]), ((), 5), (None, ()), ((None,), ())]
        bad += [((), (10 ** 10, 0, 1)), ((), ((10 ** 10, 0, 1),)), ((), (None,)), ([], ()), ((), [])]
        self.checks(texts.code_text, support.Argument(good, errors.InvalidCode, bad))

    def test_no_texts(self):
        for value in NO_TEXTS:
            for read in (texts.read_restriction, texts.read_code):
                self.fails(read, None, value)
            for read in (texts.read_formula, texts.read_circuit, texts.read_tree):
                self.fails(read, None, 2, value)
                self.refuses(errors.InvalidNumber, 11, read, 11, value)
        for read in (texts.read_formula, texts.read_circuit, texts.read_tree):
            for wrong in support.NO_NUMBERS + [-1, 11]:
                self.refuses(errors.InvalidNumber, wrong, read, wrong, "0\n")


if __name__ == "__main__":
    unittest.main()
