"""Several formulas under one restriction: turns, common trees, and the codes of deep ones."""

from deepcodes.canon.codes import code_for, traced
from deepcodes.checks import (
    is_bit, is_formula_of, is_letter, is_number, is_restriction_of, is_tuple_of, need_any_restriction, need_depth,
    need_n, need_number, need_work
)
from deepcodes.errors import InvalidCode, InvalidFormula
from deepcodes.letters.terms import greatest_width
from deepcodes.powers import power, rounded_up
from deepcodes.told.restrictions import count_with, restrictions_with, told_too
from deepcodes.trees.growth import deep_grown, mark_of_told, marks_of

MOST_FORMULAS = 8
MOST_MARKS = 10


def need_formulas(n, formulas):
    if not isinstance(formulas, tuple) or not 1 <= len(formulas) <= MOST_FORMULAS:
        raise InvalidFormula("this is no tuple of 1 to 8 formulas")
    if not all([is_formula_of(n, formula) for formula in formulas]):
        raise InvalidFormula("some of these are no formulas of the letters")


def need_common(restriction, formulas, t):
    need_any_restriction(restriction)
    need_formulas(len(restriction), formulas)
    need_number(t, 1, 10)


def need_common_deep(restriction, formulas, t, s):
    need_common(restriction, formulas, t)
    need_depth(s)


def marked_formulas(formulas):
    return [marks_of(formula) for formula in formulas]


def next_turn(restriction, marked, t):
    """The index of the first deep formula and its turn row, None if no formula is deep.

    The formulas are told by their marks, here and below.
    """
    told, ones = mark_of_told(restriction)
    for index, marks in enumerate(marked):
        row = deep_grown(marks, 0, told, ones, t, True)
        if row is not None:
            return index, row
    return None


def letters_asked(literals):
    return [letter for letter, _ in literals]


def turn_of(restriction, formulas, t):
    """The pair of the index of the first deep formula and of its turn row, or None."""
    need_common(restriction, formulas, t)
    return next_turn(restriction, marked_formulas(formulas), t)


def common_grown(restriction, marked, t):
    turn = next_turn(restriction, marked, t)
    if turn is None:
        return ()
    return common_asking(restriction, marked, t, letters_asked(turn[1]))


def common_asking(restriction, marked, t, letters):
    """The tree that asks these letters, and then goes on as the common tree."""
    if not letters:
        return common_grown(restriction, marked, t)
    letter, *rest = letters
    low = common_asking(told_too(restriction, [(letter, 0)]), marked, t, rest)
    high = common_asking(told_too(restriction, [(letter, 1)]), marked, t, rest)
    return (letter, low, high)


def common_tree(restriction, formulas, t):
    """The tree that asks the letters of turn rows as long as a formula is deep."""
    need_common(restriction, formulas, t)
    return common_grown(restriction, marked_formulas(formulas), t)


def common_depth(restriction, formulas, t):
    """The depth of the common tree."""
    need_common(restriction, formulas, t)
    return depth_of_common(common_grown(restriction, marked_formulas(formulas), t))


def depth_of_common(tree):
    if not tree:
        return 0
    _, low, high = tree
    return 1 + max(depth_of_common(low), depth_of_common(high))


def is_common_tree(restriction, formulas, t, value):
    need_common(restriction, formulas, t)
    return is_common_behind(restriction, marked_formulas(formulas), t, value)


def is_common_behind(restriction, marked, t, value):
    """Whether the value asks free letters alone, none twice, and leaves no formula deep at its ends."""
    if is_tuple_of(value, 0):
        return next_turn(restriction, marked, t) is None
    if not is_tuple_of(value, 3):
        return False
    letter, low, high = value
    if not is_letter(len(restriction), letter) or restriction[letter] != 2:
        return False
    told_low, told_high = [told_too(restriction, [(letter, bit)]) for bit in (0, 1)]
    return is_common_behind(told_low, marked, t, low) and is_common_behind(told_high, marked, t, high)


def common_row(restriction, marked, t, s):
    """The first tuple of the first s literals along a way of the common tree, None if it is less deep."""
    if s == 0:
        return ()
    turn = next_turn(restriction, marked, t)
    return None if turn is None else common_row_asking(restriction, marked, t, s, letters_asked(turn[1]))


def common_row_asking(restriction, marked, t, s, letters):
    """The same where these letters are asked first."""
    if s == 0 or not letters:
        return common_row(restriction, marked, t, s)
    letter, *rest = letters
    for answer in (0, 1):
        behind = common_row_asking(told_too(restriction, [(letter, answer)]), marked, t, s - 1, rest)
        if behind is not None:
            return ((letter, answer), *behind)
    return None


def code_in_common(restriction, formulas, t, s):
    """The common code, None if the common tree is less than s deep."""
    marked = marked_formulas(formulas)
    row = common_row(restriction, marked, t, s)
    if row is None:
        return None
    here = first = restriction
    turns = []
    while row:
        index, turn_row = next_turn(here, marked, t)
        asked = row[:len(turn_row)]
        # A turn row goes as the way of one formula does, so its pieces are those of a code.
        told, triples = code_for(here, formulas[index], turn_row[:len(asked)])
        first = told_too(first, [(letter, told[letter]) for letter, _ in asked])
        here = told_too(here, asked)
        turns.append((index, tuple([(*triple, answer) for triple, (_, answer) in zip(triples, asked)])))
        row = row[len(asked):]
    return (first, tuple(turns))


def common_code(restriction, formulas, t, s):
    """The common code for s, None if the common tree is less than s deep."""
    need_common_deep(restriction, formulas, t, s)
    return code_in_common(restriction, formulas, t, s)


def has_common_form(n, formulas, value):
    """Whether the value is a pair of a restriction and of turns of these formulas."""
    if not is_tuple_of(value, 2) or not is_restriction_of(n, value[0]) or not isinstance(value[1], tuple):
        return False
    if not all([is_turn_form(len(formulas), turn) for turn in value[1]]):
        return False
    return sum([len(marks) for _, marks in value[1]]) <= MOST_MARKS


def is_turn_form(many, value):
    """Whether the value is a pair of an index and of 1 to 10 marks, the last of which ends a piece."""
    if not is_tuple_of(value, 2) or not is_number(value[0], 0, many - 1):
        return False
    marks = value[1]
    if not isinstance(marks, tuple) or not 1 <= len(marks) <= MOST_MARKS:
        return False
    return all([is_mark(mark) for mark in marks]) and marks[-1][2] == 1


def is_mark(value):
    """Whether the value is a mark (place, answer of the turn row, end, answer of the common row)."""
    return is_tuple_of(value, 4) and is_number(value[0], 0, 9) and all([is_bit(bit) for bit in value[1:]])


def back_in_common(formulas, code):
    """The restriction to which a common code leads back, None if it leads to none."""
    here, turns = code
    back = here
    for index, marks in turns:
        trace = traced(formulas[index], (here, tuple([mark[:3] for mark in marks])))
        if trace is None:
            return None
        letters = letters_asked(trace[1])
        # What elder turns found is told in `here`, so that it is not free is not seen there.
        if any([back[letter] == 2 for letter in letters]):
            return None
        back = told_too(back, [(letter, 2) for letter in letters])
        here = told_too(here, [(letter, mark[3]) for letter, mark in zip(letters, marks)])
    return back


def common_back(n, formulas, code):
    """The restriction to which a common code leads back, None if it leads to none."""
    need_n(n)
    need_formulas(n, formulas)
    if not has_common_form(n, formulas, code):
        raise InvalidCode("this has not the form of a common code")
    return back_in_common(formulas, code)


def is_common_code(n, formulas, t, s, value):
    """Whether the value is the common code of some restriction for t and s."""
    need_n(n)
    need_formulas(n, formulas)
    need_number(t, 1, 10)
    need_depth(s)
    if not has_common_form(n, formulas, value):
        return False
    back = back_in_common(formulas, value)
    # A common code leads back to its restriction, so no other one can have it.
    return back is not None and value == code_in_common(back, formulas, t, s)


def common_answer(restriction, formulas, t, s):
    """The common tree if it is less than s deep, else the common code."""
    need_common_deep(restriction, formulas, t, s)
    code = code_in_common(restriction, formulas, t, s)
    return ("tree", common_grown(restriction, marked_formulas(formulas), t)) if code is None else ("code", code)


def need_counted(n, formulas, free, t, s):
    need_n(n)
    need_formulas(n, formulas)
    need_number(free, 0, n)
    need_number(t, 1, 10)
    need_depth(s)


def common_bad(n, formulas, free, t, s):
    """How many restrictions with so many free letters have common trees at least s deep."""
    need_counted(n, formulas, free, t, s)
    need_work(count_with(n, free), sum([len(formula) for formula in formulas]))
    marked = marked_formulas(formulas)
    rows = [common_row(restriction, marked, t, s) for restriction in restrictions_with(n, free)]
    return len([row for row in rows if row is not None])


def common_bound(n, formulas, free, t, s):
    """What so many restrictions can be at most, as their common codes are unlike."""
    need_counted(n, formulas, free, t, s)
    if s > free:
        return 0
    width = max([greatest_width(formula) for formula in formulas])
    return count_with(n, free - s) * power(8 * width, s) * power(len(formulas), rounded_up(s, t))
