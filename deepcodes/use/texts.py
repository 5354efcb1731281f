"""Texts of formulas, restrictions, circuits, trees and codes, and how they are read back."""

from deepcodes.checks import (
    MOST_LETTERS, MOST_TERMS, MOST_TRIPLES, has_code_form, is_any_restriction, is_ascending, is_tuple_of,
    need_any_restriction, need_formula, need_n, need_tree
)
from deepcodes.circuits.circuits import MOST_LINES, MOST_LOT, need_circuit
from deepcodes.errors import InvalidCode, ParseError

DIGITS = "0123456789"
MEMBER_SIGNS = "01*"
LITERAL_SIGNS = "-+"


def text_of(lines):
    return "".join([line + "\n" for line in lines])


def literal_words(term):
    return [f"{LITERAL_SIGNS[bit]}{letter}" for letter, bit in term]


def signs_of(restriction):
    return "".join([MEMBER_SIGNS[member] for member in restriction])


def formula_text(n, formula):
    """A line for each term."""
    need_n(n)
    need_formula(n, formula)
    return text_of([" ".join(literal_words(term)) if term else "true" for term in formula])


def restriction_text(restriction):
    """One line of a sign for each letter."""
    need_any_restriction(restriction)
    return text_of([signs_of(restriction)])


def circuit_line(line):
    if line[0] == "letter":
        _, letter, bit = line
        return f"letter {letter} {bit}"
    word, lot = line
    told = ",".join([str(at) for at in lot]) if lot else "-"
    return f"{word} {told}"


def circuit_text(n, circuit):
    """A line for each line."""
    need_circuit(n, circuit)
    return text_of([circuit_line(line) for line in circuit])


def tree_lines(tree):
    if isinstance(tree, int):
        return [str(tree)]
    letter, low, high = tree
    return [f"ask {letter}", *tree_lines(low), *tree_lines(high)]


def tree_text(n, tree):
    """A line for each letter that is asked and for each end, the upper one ahead of the lower ones."""
    need_n(n)
    need_tree(n, tree)
    return text_of(tree_lines(tree))


def code_text(code):
    """The line of the restriction, and one for each triple."""
    if not is_tuple_of(code, 2) or not is_any_restriction(code[0]) or not has_code_form(len(code[0]), code):
        raise InvalidCode("this has not the form of a code")
    restriction, triples = code
    return text_of([signs_of(restriction)] + [f"{place} {answer} {end}" for place, answer, end in triples])


def whole_lines(text):
    """The list of the lines of a text, with None for a last one that lacks its end."""
    if not isinstance(text, str):
        raise ParseError(None)
    lines = text.split("\n")
    if lines[-1] != "":
        return [*lines[:-1], None]
    return lines[:-1]


def words_in(line):
    """The words of a line, none of one that lacks its end."""
    return [] if line is None else line.split(" ")


def number_read(word, most):
    """The number from 0 to at most `most` that a word tells, else None."""
    # No number here has more than three digits.
    if not 1 <= len(word) <= 3 or not all([sign in DIGITS for sign in word]):
        return None
    if word[0] == "0" and word != "0":
        return None
    number = int(word)
    return number if number <= most else None


def all_read(parts):
    """The tuple of what was read, None if some part could not be."""
    return None if any([part is None for part in parts]) else tuple(parts)


def literal_read(n, word):
    letter = number_read(word[1:], n - 1)
    if letter is None or word[0] not in LITERAL_SIGNS:
        return None
    return (letter, LITERAL_SIGNS.index(word[0]))


def term_read(n, words):
    """The term that these words of literals, or the word for the empty one, tell; else None."""
    if words == ["true"]:
        return ()
    term = all_read([literal_read(n, word) for word in words])
    # Without a word nothing is told: the empty term has a word, too.
    return term if term and is_ascending([letter for letter, _ in term]) else None


def read_formula(n, text):
    """The formula of a text."""
    need_n(n)
    terms = []
    for index, line in enumerate(whole_lines(text)):
        term = term_read(n, words_in(line))
        if term is None or index >= MOST_TERMS:
            raise ParseError(index)
        terms.append(term)
    return tuple(terms)


def signs_read(line):
    """The restriction of a line of signs, else None."""
    if line is None or len(line) > MOST_LETTERS or not all([sign in MEMBER_SIGNS for sign in line]):
        return None
    return tuple([MEMBER_SIGNS.index(sign) for sign in line])


def first_restriction(lines):
    """The restriction of the first of some lines."""
    restriction = signs_read(lines[0]) if lines else None
    if restriction is None:
        raise ParseError(0)
    return restriction


def read_restriction(text):
    """The restriction of a text."""
    lines = whole_lines(text)
    restriction = first_restriction(lines)
    if len(lines) > 1:
        raise ParseError(1)
    return restriction


def lot_read(elder, word):
    """The lot of a word, of so many lines, else None."""
    if word == "-":
        return ()
    lot = all_read([number_read(part, elder - 1) for part in word.split(",")])
    if lot is None or len(lot) > MOST_LOT or not is_ascending(lot):
        return None
    return lot


def line_read(n, elder, words):
    """The line of a circuit, behind so many elder ones, that the words tell, else None."""
    if len(words) == 3 and words[0] == "letter":
        told = all_read([number_read(words[1], n - 1), number_read(words[2], 1)])
        return None if told is None else ("letter", *told)
    if len(words) == 2 and words[0] in ("and", "or"):
        lot = lot_read(elder, words[1])
        return None if lot is None else (words[0], lot)
    return None


def read_circuit(n, text):
    """The circuit of a text."""
    need_n(n)
    lines = []
    for index, line in enumerate(whole_lines(text)):
        told = line_read(n, index, words_in(line))
        if told is None or index >= MOST_LINES:
            raise ParseError(index)
        lines.append(told)
    if not lines:
        raise ParseError(0)
    return tuple(lines)


def tree_from(n, lines, index, asked):
    """The tree that begins with a line, and the index of the line behind it."""
    if index == len(lines):
        raise ParseError(index)
    words = words_in(lines[index])
    if words in (["0"], ["1"]):
        return int(words[0]), index + 1
    letter = number_read(words[1], n - 1) if len(words) == 2 and words[0] == "ask" else None
    if letter is None or letter in asked:
        raise ParseError(index)
    low, behind = tree_from(n, lines, index + 1, (*asked, letter))
    high, behind = tree_from(n, lines, behind, (*asked, letter))
    return (letter, low, high), behind


def read_tree(n, text):
    """The tree of a text."""
    need_n(n)
    lines = whole_lines(text)
    tree, behind = tree_from(n, lines, 0, ())
    if behind < len(lines):
        raise ParseError(behind)
    return tree


def triple_read(words):
    """The triple that the words tell, else None."""
    if len(words) != 3:
        return None
    return all_read([number_read(word, most) for word, most in zip(words, (9, 1, 1))])


def read_code(text):
    """The pair of a restriction and of triples of a text."""
    lines = whole_lines(text)
    restriction = first_restriction(lines)
    triples = []
    for index in range(1, len(lines)):
        triple = triple_read(words_in(lines[index]))
        if triple is None or index > MOST_TRIPLES:
            raise ParseError(index)
        triples.append(triple)
    return (restriction, tuple(triples))
