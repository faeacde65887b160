"""Looks, held against two other reckonings: one that solves all from the beginning for each place, with what is known
put in place at once, and one that tries choices one by one."""

import itertools
import unittest

from gapscribe.forms import GAP
from gapscribe.looks import blanked, looks
from tests.samples import (
    ALL_WORDS, NUM, ODD, YES, busy_trees, call, fn, grown_trees, let, name, plus, rec, when,
)

NUMBER = ("num",)
TRUTH = ("truth",)


def to(first, second):
    return ("to", first, second)


# Kinds without unknown ones: the plainest, and some that are nested deeper.
FUNCTIONS = [to(first, second) for first in (NUMBER, TRUTH) for second in (NUMBER, TRUTH)]
FEW = [NUMBER, TRUTH] + FUNCTIONS
MORE = FEW + [to(NUMBER, kind) for kind in FUNCTIONS] + [to(kind, NUMBER) for kind in FUNCTIONS]


RULES = {
    "num": lambda one, other: (NUMBER, []),
    "truth": lambda one, other: (TRUTH, []),
    "plus": lambda one, other: (NUMBER, [NUMBER, NUMBER]),
    "minus": lambda one, other: (NUMBER, [NUMBER, NUMBER]),
    "less": lambda one, other: (TRUTH, [NUMBER, NUMBER]),
    "if": lambda one, other: (one, [TRUTH, one, one]),
    "fn": lambda one, other: (to(one, other), [other]),
    "rec": lambda one, other: (to(one, other), [other]),
    "let": lambda one, other: (other, [one, other]),
    "call": lambda one, other: (other, [to(one, other), one]),
}


def rule(form, one, other):
    """What a form gives, and what it asks of its parts, with these kinds for its unknown ones."""
    return RULES[form[0]](one, other) if form[0] in RULES else (one, [])


def bound_in(form, number, one, other):
    """The names that a form binds in a part, with their kinds."""
    if form[0] == "rec":
        return ((form[1][0], to(one, other)), (form[1][1], one))
    return ((form[1], one),) if form[0] == "fn" or (form[0] == "let" and number == 1) else ()


def bound_kind(around, text):
    """The kind of the last binding of the name, or None where it is free."""
    return next((kind for bound, kind in reversed(around) if bound == text), None)


def conditions(form, place=(), asked=None, around=()):
    """(place, form, given, asked, free) for each place; the unknown kinds of a form are numbered by its place."""
    own = ("any", place + ("one",)), ("any", place + ("other",))
    given, wanted = rule(form, *own)
    free = False
    if form[0] == "name":
        known = bound_kind(around, form[1])
        free = known is None
        given = given if free else known
    told = [(place, form, given, asked, free)]
    for number, part in enumerate(form[2]):
        told += conditions(part, place + (number,), wanted[number], around + bound_in(form, number, *own))
    return told


def replaced(kind, number, other):
    """The kind with another one in the place of an unknown one."""
    if kind == ("any", number):
        return other
    return to(replaced(kind[1], number, other), replaced(kind[2], number, other)) if kind[0] == "to" else kind


def unknowns(kind):
    if kind[0] == "to":
        return unknowns(kind[1]) + unknowns(kind[2])
    return [kind[1]] if kind[0] == "any" else []


def solved(pairs):
    """A row of (number, kind) to be put in place one behind the other, so that all pairs are alike; None if none."""
    row = []
    pairs = list(pairs)
    while pairs:
        left, right = pairs.pop(0)
        if left == right:
            continue
        if left[0] != "any":
            left, right = right, left
        if left[0] == "any":
            if left[1] in unknowns(right):
                return None
            row.append((left[1], right))
            pairs = [tuple(replaced(kind, left[1], right) for kind in pair) for pair in pairs]
        elif left[0] == right[0] == "to":
            pairs = [(left[1], right[1]), (left[2], right[2])] + pairs
        else:
            return None
    return row


def renumbered(kind, numbers):
    if kind[0] == "to":
        return to(renumbered(kind[1], numbers), renumbered(kind[2], numbers))
    return ("any", numbers.setdefault(kind[1], len(numbers))) if kind[0] == "any" else kind


def looks_from_the_beginning(tree):
    fitting, marks = [], []
    told = conditions(tree)
    for place, form, given, asked, free in told:
        fits = place == () or solved(fitting + [(given, asked)]) is not None
        if fits and place != ():
            fitting.append((given, asked))
        marks.append("unlike" if not fits else "odd" if form[0] == "odd" else "free" if free else "")
    row = solved(fitting)
    numbers = {}
    rows = []
    for (place, form, given, asked, free), mark in zip(told, marks):
        kinds = []
        for kind in (given, asked):
            for number, other in row if kind else []:
                kind = replaced(kind, number, other)
            kinds.append(kind and renumbered(kind, numbers))
        rows.append((place, kinds[0], kinds[1], mark))
    return rows


def choices(forms, told, kinds, unheld):
    """Each way to choose among the kinds for the unknown ones of all these forms, so that the places fit but for the
    unheld ones: rows of (given, asked). `forms` holds (place, form, asked, around) still to be gone through."""
    if not forms:
        yield told
        return
    (place, form, asked, around), rest = forms[0], forms[1:]
    known = bound_kind(around, form[1]) if form[0] == "name" else None
    many = {"let": 2, "fn": 2, "rec": 2, "call": 2, "if": 1, "gap": 1, "odd": 1, "name": known is None}.get(form[0], 0)
    for chosen in itertools.product(kinds, repeat=many):
        own = (chosen + (None, None))[:2]
        given, wanted = rule(form, *own)
        given = given if known is None else known
        if asked is not None and given != asked and place not in unheld:
            continue
        parts = [
            (place + (number,), part, wanted[number], around + bound_in(form, number, *own))
            for number, part in enumerate(form[2])
        ]
        yield from choices(parts + rest, told + [(given, asked)], kinds, unheld)


def choices_of(tree, kinds, unheld):
    return choices([((), tree, None, ())], [], kinds, unheld)


def unlike_by_trying(tree, kinds):
    """The places marked "unlike", by the words of the document: all places behind the one at hand are unheld."""
    order = [row[0] for row in conditions(tree)]
    marked = []
    for at, place in enumerate(order[1:], 1):
        if next(choices_of(tree, kinds, set(marked) | set(order[at + 1:])), None) is None:
            marked.append(place)
    return marked


def matches(pattern, kind, put):
    """Whether the kind is the pattern with one and the same kind for each unknown one; these are put down in `put`."""
    if pattern is None or kind is None:
        return pattern is None and kind is None
    if pattern[0] == "any":
        return put.setdefault(pattern[1], kind) == kind
    if pattern[0] != "to" or kind[0] != "to":
        return pattern == kind
    return matches(pattern[1], kind[1], put) and matches(pattern[2], kind[2], put)


def put_in(pattern, chosen):
    if pattern is None:
        return None
    if pattern[0] == "any":
        return chosen[pattern[1]]
    return to(put_in(pattern[1], chosen), put_in(pattern[2], chosen)) if pattern[0] == "to" else pattern


def own_kinds(form, given, asked):
    """The kinds put in the place of a form's unknown ones, told from what it gives and asks."""
    if form[0] in ("fn", "rec"):
        return given[1:]
    if form[0] in ("let", "call"):
        return asked[form[0] == "call"], given
    return given, None


def is_choice(tree, told):
    """Whether the kinds told at all places are of a choice under which all places fit but for the unlike ones."""
    given = {row[0]: row[1] for row in told}
    asked = {row[0]: row[2] for row in told}
    arounds = {(): ()}
    for place, form in [row[:2] for row in conditions(tree)]:
        parts = [asked[place + (number,)] for number in range(len(form[2]))]
        own = own_kinds(form, given[place], parts)
        expected, wanted = rule(form, *own)
        if form[0] == "name":
            expected = bound_kind(arounds[place], form[1]) or expected
        if given[place] != expected or parts != wanted:
            return False
        for number in range(len(parts)):
            arounds[place + (number,)] = arounds[place] + bound_in(form, number, *own)
    return all(row[1] == row[2] or row[3] == "unlike" for row in told[1:])


LEAVES = [GAP, NUM, YES, name("x"), name("f"), ODD]


def small_trees(many):
    """All trees of just so many forms, of a few names."""
    if many == 1:
        return LEAVES
    told = [make(part) for part in small_trees(many - 1) for make in (
        lambda part: fn("x", part), lambda part: fn("f", part),
        lambda part: rec("f", "x", part), lambda part: rec("x", "x", part),
    )]
    for left in range(1, many - 1):
        for first, second in itertools.product(small_trees(left), small_trees(many - 1 - left)):
            told += [plus(first, second), ("less", None, (first, second)), call(first, second)]
            told += [let("x", first, second), let("f", first, second)]
    for left, middle in itertools.product(range(1, many), repeat=2):
        if left + middle < many - 1:
            sizes = (left, middle, many - 1 - left - middle)
            told += [when(*parts) for parts in itertools.product(*map(small_trees, sizes))]
    return told


class FromTheBeginningTest(unittest.TestCase):
    def holds(self, tree):
        self.assertEqual(looks(tree), looks_from_the_beginning(tree), tree)

    def test_small_trees(self):
        for many in (1, 2, 3, 4):
            for tree in small_trees(many):
                self.holds(tree)

    def test_trees_of_many_sizes(self):
        for tree in busy_trees(11, 1000, 2, 12) + grown_trees(11, 300, 40):
            self.holds(tree)
            self.holds(blanked(tree))

    def test_trees_of_up_to_40_forms(self):
        for tree in busy_trees(12, 150, 20, 40) + [ALL_WORDS]:
            self.holds(tree)
            self.holds(blanked(tree))


class TriedOneByOneTest(unittest.TestCase):
    def test_unlike(self):
        for tree in small_trees(1) + small_trees(2) + small_trees(3) + busy_trees(13, 150, 3, 5):
            told = [row[0] for row in looks(tree) if row[3] == "unlike"]
            self.assertEqual(unlike_by_trying(tree, MORE), told, tree)

    def test_all_choices_are_told_and_no_others(self):
        for tree in small_trees(1) + small_trees(2) + small_trees(3) + busy_trees(14, 150, 3, 5):
            rows = looks(tree)
            unlike = {row[0] for row in rows if row[3] == "unlike"}
            for choice in choices_of(tree, FEW, unlike):
                put = {}
                for row, pair in zip(rows, choice):
                    self.assertTrue(matches(row[1], pair[0], put) and matches(row[2], pair[1], put), tree)

    def test_unknown_kinds_may_be_put_freely(self):
        for tree in small_trees(1) + small_trees(2) + small_trees(3) + busy_trees(15, 400, 4, 14):
            rows = looks(tree)
            many = len({number for row in rows for kind in row[1:3] if kind for number in unknowns(kind)})
            for turn in range(5):
                chosen = [FEW[(turn + number * (turn + 1)) % len(FEW)] for number in range(many)]
                told = [(row[0], put_in(row[1], chosen), put_in(row[2], chosen), row[3]) for row in rows]
                self.assertTrue(is_choice(tree, told), tree)


if __name__ == "__main__":
    unittest.main()
