"""A bench: a formula and a restriction that are told by lines of words, and asked so."""

from deepcodes.canon.codes import deep_code
from deepcodes.checks import MOST_TERMS, need_n
from deepcodes.errors import InvalidOperation, ParseError, TooMany
from deepcodes.letters.terms import does_keep, greatest_width
from deepcodes.told.restrictions import told_too
from deepcodes.trees.growth import canonical_grown
from deepcodes.trees.trees import depth_below
from deepcodes.use.texts import number_read, signs_of, term_read

# For each first word what the words behind it tell.
KINDS = {
    "term": ("term",), "put": ("place", "term"), "drop": ("index",), "tell": ("letter", "bit"), "free": ("letter",),
    "depth": (), "code": ("s",), "value": ("row",), "undo": ()
}


def row_read(n, word):
    """The input of a word of bits, else None."""
    if len(word) != n or not all([sign in "01" for sign in word]):
        return None
    return tuple([int(sign) for sign in word])


def meaning_of(n, many, kind, word):
    """What a word of this kind tells where there are so many terms, None if it has no meaning."""
    if kind == "term":
        return term_read(n, word.split(","))
    if kind == "row":
        return row_read(n, word)
    most = {"place": many, "index": many - 1, "letter": n - 1, "bit": 1, "s": 10}
    return number_read(word, most[kind])


def meanings_of(n, many, words):
    """The list of what the words behind the first one tell."""
    if words[0] not in KINDS:
        raise ParseError(0)
    kinds = KINDS[words[0]]
    told = []
    for at, kind in enumerate(kinds):
        meaning = meaning_of(n, many, kind, words[at + 1]) if at + 1 < len(words) else None
        if meaning is None:
            raise ParseError(at + 1)
        told.append(meaning)
    if len(words) > len(kinds) + 1:
        raise ParseError(len(kinds) + 1)
    return told


def formula_changed(formula, word, told):
    """The formula behind a line of the word `term`, `put` or `drop`."""
    if word == "drop":
        return formula[:told[0]] + formula[told[0] + 1:]
    if len(formula) == MOST_TERMS:
        raise TooMany(MOST_TERMS)
    at = told[0] if word == "put" else len(formula)
    return (*formula[:at], told[-1], *formula[at:])


def restriction_changed(restriction, word, told):
    """The restriction behind a line of the word `tell` or `free`."""
    letter = told[0]
    if (restriction[letter] == 2) != (word == "tell"):
        raise InvalidOperation("the letter is told already, or free")
    return told_too(restriction, [(letter, told[1] if word == "tell" else 2)])


def code_reply(restriction, formula, s):
    code = deep_code(restriction, formula, s)
    if code is None:
        return f"tree below {s}"
    first, triples = code
    return " ".join(["code", signs_of(first), *[f"{place}.{answer}.{end}" for place, answer, end in triples]])


def asked_reply(restriction, formula, word, told):
    """The reply to a line that changes nothing."""
    if word == "depth":
        return f"depth {depth_below(canonical_grown(restriction, formula))}"
    if word == "code":
        return code_reply(restriction, formula, told[0])
    return str(int(any([does_keep(told[0], term) for term in formula])))


class Bench:
    """A formula and a restriction that lines change and ask for."""

    def __init__(self, n):
        need_n(n)
        self.n = n
        self.formula = ()
        self.restriction = (2,) * n
        self.lines = ()
        # What was there ahead of each change that is not taken back, the last one at the end.
        self._elder = []

    def tell(self, line):
        """Does a line, and returns its reply."""
        if not isinstance(line, str):
            raise ParseError(None)
        words = line.split(" ")
        told = meanings_of(self.n, len(self.formula), words)
        reply = self._reply(words[0], told)
        self.lines = (*self.lines, line)
        return reply

    def _reply(self, word, told):
        """The reply to a line, behind what it changes."""
        if word in ("term", "put", "drop"):
            self._change(formula_changed(self.formula, word, told), self.restriction)
            return f"{len(self.formula)} terms, width {greatest_width(self.formula)}"
        if word in ("tell", "free"):
            self._change(self.formula, restriction_changed(self.restriction, word, told))
            return f"{self.restriction.count(2)} free letters"
        if word == "undo":
            return self._undo()
        return asked_reply(self.restriction, self.formula, word, told)

    def _change(self, formula, restriction):
        self._elder.append((self.formula, self.restriction))
        self.formula = formula
        self.restriction = restriction

    def _undo(self):
        if not self._elder:
            raise InvalidOperation("there is nothing to take back")
        self.formula, self.restriction = self._elder.pop()
        return "undone"

    def __len__(self):
        return len(self.formula)

    def __str__(self):
        return f"bench of {self.n} letters, {len(self.formula)} terms"
