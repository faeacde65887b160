import unittest

from gapscribe.errors import GapError, NoPlace, TooBig
from gapscribe.forms import GAP
from gapscribe.looks import blanked, kind_at, looks, marks
from gapscribe.places import form_at, places
from tests.samples import (
    ALL_WORDS, NO, NUM, ODD, ONE_OF_EACH, YES, bush, busy_trees, call, chain, check_own_lists, fn, grown_trees, less,
    let, minus, name, no_places, num, plus, rec, size, when,
)

A, F, G, X, Y = name("a"), name("f"), name("g"), name("x"), name("y")
ONE = num(1)


def kind_of(text):
    """The kind that is written so, as kinds are shown."""
    depth = 0
    for at, sign in enumerate(text):
        depth += {"(": 1, ")": -1}.get(sign, 0)
        if depth == 0 and text[at:at + 4] == " to ":
            return ("to", kind_of(text[:at]), kind_of(text[at + 4:]))
    if text.startswith("("):
        return kind_of(text[1:-1])
    return ("any", int(text[3:])) if text.startswith("any") else (text,)


def place_of(text):
    return () if text == "/" else tuple(int(number) for number in text.split("."))


def row_of(text):
    """A row of looks, written `place | given | asked | mark`; the asked one is `-` at the top."""
    place, given, asked, mark = [piece.strip() for piece in text.split("|")]
    return (place_of(place), kind_of(given), None if asked == "-" else kind_of(asked), mark)


# Each word with gaps as parts.
EACH_WORD = [
    (GAP, ["/ | any0 | - |"]),
    (ODD, ["/ | any0 | - | odd"]),
    (NUM, ["/ | num | - |"]),
    (YES, ["/ | truth | - |"]),
    (X, ["/ | any0 | - | free"]),
    (plus(GAP, GAP), ["/ | num | - |", "0 | num | num |", "1 | num | num |"]),
    (minus(GAP, GAP), ["/ | num | - |", "0 | num | num |", "1 | num | num |"]),
    (less(GAP, GAP), ["/ | truth | - |", "0 | num | num |", "1 | num | num |"]),
    (call(GAP, GAP), ["/ | any0 | - |", "0 | any1 to any0 | any1 to any0 |", "1 | any1 | any1 |"]),
    (when(GAP, GAP, GAP), ["/ | any0 | - |", "0 | truth | truth |", "1 | any0 | any0 |", "2 | any0 | any0 |"]),
    (fn("x", GAP), ["/ | any0 to any1 | - |", "0 | any1 | any1 |"]),
    (rec("f", "x", GAP), ["/ | any0 to any1 | - |", "0 | any1 | any1 |"]),
    (let("x", GAP, GAP), ["/ | any0 | - |", "0 | any1 | any1 |", "1 | any0 | any0 |"]),
]

BINDINGS = [
    (fn("x", X), ["/ | any0 to any0 | - |", "0 | any0 | any0 |"]),
    (fn("x", Y), ["/ | any0 to any1 | - |", "0 | any1 | any1 | free"]),
    (fn("x", plus(X, GAP)), ["/ | num to num | - |", "0 | num | num |", "0.0 | num | num |", "0.1 | num | num |"]),
    (let("x", GAP, X), ["/ | any0 | - |", "0 | any0 | any0 |", "1 | any0 | any0 |"]),
    (let("x", NUM, X), ["/ | num | - |", "0 | num | num |", "1 | num | num |"]),
    (let("x", YES, X), ["/ | truth | - |", "0 | truth | truth |", "1 | truth | truth |"]),
    (let("x", GAP, less(X, X)),
     ["/ | truth | - |", "0 | num | num |", "1 | truth | truth |", "1.0 | num | num |", "1.1 | num | num |"]),
    (let("x", X, X), ["/ | any0 | - |", "0 | any0 | any0 | free", "1 | any0 | any0 |"]),
    (let("x", X, plus(X, ONE)),
     ["/ | num | - |", "0 | num | num | free", "1 | num | num |", "1.0 | num | num |", "1.1 | num | num |"]),
    # The name of a let has one kind, however often it is used.
    (let("f", fn("x", X), when(call(F, YES), call(F, ONE), GAP)), [
        "/ | truth | - |", "0 | truth to truth | truth to truth |", "0.0 | truth | truth |", "1 | truth | truth |",
        "1.0 | truth | truth |", "1.0.0 | truth to truth | truth to truth |", "1.0.1 | truth | truth |",
        "1.1 | truth | truth |", "1.1.0 | truth to truth | truth to truth |", "1.1.1 | num | truth | unlike",
        "1.2 | truth | truth |",
    ]),
    (rec("f", "x", F), ["/ | any0 to any1 | - |", "0 | any0 to any1 | any1 | unlike"]),
    (rec("f", "x", X), ["/ | any0 to any0 | - |", "0 | any0 | any0 |"]),
    (rec("f", "x", call(F, X)), [
        "/ | any0 to any1 | - |", "0 | any1 | any1 |", "0.0 | any0 to any1 | any0 to any1 |", "0.1 | any0 | any0 |",
    ]),
    (rec("f", "x", call(F, GAP)), [
        "/ | any0 to any1 | - |", "0 | any1 | any1 |", "0.0 | any0 to any1 | any0 to any1 |", "0.1 | any0 | any0 |",
    ]),
    (rec("f", "x", call(F, minus(X, ONE))), [
        "/ | num to any0 | - |", "0 | any0 | any0 |", "0.0 | num to any0 | num to any0 |", "0.1 | num | num |",
        "0.1.0 | num | num |", "0.1.1 | num | num |",
    ]),
    (rec("f", "x", when(less(X, ONE), NUM, call(F, minus(X, ONE)))), [
        "/ | num to num | - |", "0 | num | num |", "0.0 | truth | truth |", "0.0.0 | num | num |",
        "0.0.1 | num | num |", "0.1 | num | num |", "0.2 | num | num |", "0.2.0 | num to num | num to num |",
        "0.2.1 | num | num |", "0.2.1.0 | num | num |", "0.2.1.1 | num | num |",
    ]),
    (rec("x", "x", X), ["/ | any0 to any0 | - |", "0 | any0 | any0 |"]),
    (rec("f", "f", call(F, ONE)), [
        "/ | (num to any0) to any0 | - |", "0 | any0 | any0 |", "0.0 | num to any0 | num to any0 |",
        "0.1 | num | num |",
    ]),
    (fn("x", fn("x", X)), [
        "/ | any0 to any1 to any1 | - |", "0 | any1 to any1 | any1 to any1 |", "0.0 | any1 | any1 |",
    ]),
    (fn("x", fn("y", X)), [
        "/ | any0 to any1 to any0 | - |", "0 | any1 to any0 | any1 to any0 |", "0.0 | any0 | any0 |",
    ]),
    (fn("x", when(X, call(fn("x", plus(X, ONE)), GAP), GAP)), [
        "/ | truth to num | - |", "0 | num | num |", "0.0 | truth | truth |", "0.1 | num | num |",
        "0.1.0 | num to num | num to num |", "0.1.0.0 | num | num |", "0.1.0.0.0 | num | num |",
        "0.1.0.0.1 | num | num |", "0.1.1 | num | num |", "0.2 | num | num |",
    ]),
    (let("x", YES, let("x", when(X, ONE, GAP), X)), [
        "/ | num | - |", "0 | truth | truth |", "1 | num | num |", "1.0 | num | num |", "1.0.0 | truth | truth |",
        "1.0.1 | num | num |", "1.0.2 | num | num |", "1.1 | num | num |",
    ]),
    # A let binds nothing in its first part, so the outer binding is meant there.
    (fn("x", let("x", X, X)), [
        "/ | any0 to any0 | - |", "0 | any0 | any0 |", "0.0 | any0 | any0 |", "0.1 | any0 | any0 |",
    ]),
]

CALLS = [
    (call(fn("x", X), NUM), ["/ | num | - |", "0 | num to num | num to num |", "0.0 | num | num |", "1 | num | num |"]),
    (call(fn("x", YES), NUM),
     ["/ | truth | - |", "0 | num to truth | num to truth |", "0.0 | truth | truth |", "1 | num | num |"]),
    (call(fn("x", X), GAP),
     ["/ | any0 | - |", "0 | any0 to any0 | any0 to any0 |", "0.0 | any0 | any0 |", "1 | any0 | any0 |"]),
    (call(GAP, YES), ["/ | any0 | - |", "0 | truth to any0 | truth to any0 |", "1 | truth | truth |"]),
    (call(ODD, X), ["/ | any0 | - |", "0 | any1 to any0 | any1 to any0 | odd", "1 | any1 | any1 | free"]),
    (call(call(GAP, NUM), YES), [
        "/ | any0 | - |", "0 | truth to any0 | truth to any0 |",
        "0.0 | num to truth to any0 | num to truth to any0 |", "0.1 | num | num |", "1 | truth | truth |",
    ]),
    (call(call(GAP, GAP), GAP), [
        "/ | any0 | - |", "0 | any1 to any0 | any1 to any0 |",
        "0.0 | any2 to any1 to any0 | any2 to any1 to any0 |", "0.1 | any2 | any2 |", "1 | any1 | any1 |",
    ]),
    (call(GAP, call(GAP, GAP)), [
        "/ | any0 | - |", "0 | any1 to any0 | any1 to any0 |", "1 | any1 | any1 |",
        "1.0 | any2 to any1 | any2 to any1 |", "1.1 | any2 | any2 |",
    ]),
    (call(GAP, fn("x", X)), [
        "/ | any0 | - |", "0 | (any1 to any1) to any0 | (any1 to any1) to any0 |",
        "1 | any1 to any1 | any1 to any1 |", "1.0 | any1 | any1 |",
    ]),
    (call(fn("f", call(F, ONE)), fn("x", less(X, GAP))), [
        "/ | truth | - |", "0 | (num to truth) to truth | (num to truth) to truth |", "0.0 | truth | truth |",
        "0.0.0 | num to truth | num to truth |", "0.0.1 | num | num |", "1 | num to truth | num to truth |",
        "1.0 | truth | truth |", "1.0.0 | num | num |", "1.0.1 | num | num |",
    ]),
    # What is settled at the last place is told at the first one too.
    (fn("f", fn("x", when(GAP, call(F, X), plus(X, GAP)))), [
        "/ | (num to num) to num to num | - |", "0 | num to num | num to num |", "0.0 | num | num |",
        "0.0.0 | truth | truth |", "0.0.1 | num | num |", "0.0.1.0 | num to num | num to num |",
        "0.0.1.1 | num | num |", "0.0.2 | num | num |", "0.0.2.0 | num | num |", "0.0.2.1 | num | num |",
    ]),
]

UNLIKE = [
    (plus(YES, GAP), ["/ | num | - |", "0 | truth | num | unlike", "1 | num | num |"]),
    (plus(GAP, YES), ["/ | num | - |", "0 | num | num |", "1 | truth | num | unlike"]),
    (minus(NO, YES), ["/ | num | - |", "0 | truth | num | unlike", "1 | truth | num | unlike"]),
    (less(GAP, less(ONE, ONE)), [
        "/ | truth | - |", "0 | num | num |", "1 | truth | num | unlike", "1.0 | num | num |", "1.1 | num | num |",
    ]),
    (when(NUM, GAP, GAP), ["/ | any0 | - |", "0 | num | truth | unlike", "1 | any0 | any0 |", "2 | any0 | any0 |"]),
    (when(GAP, NUM, YES), ["/ | num | - |", "0 | truth | truth |", "1 | num | num |", "2 | truth | num | unlike"]),
    (when(GAP, YES, NUM),
     ["/ | truth | - |", "0 | truth | truth |", "1 | truth | truth |", "2 | num | truth | unlike"]),
    (plus(when(GAP, YES, NUM), GAP), [
        "/ | num | - |", "0 | num | num |", "0.0 | truth | truth |", "0.1 | truth | num | unlike",
        "0.2 | num | num |", "1 | num | num |",
    ]),
    (call(NUM, GAP), ["/ | any0 | - |", "0 | num | any1 to any0 | unlike", "1 | any1 | any1 |"]),
    (call(YES, ONE), ["/ | any0 | - |", "0 | truth | num to any0 | unlike", "1 | num | num |"]),
    (call(fn("x", plus(X, ONE)), NO), [
        "/ | num | - |", "0 | num to num | num to num |", "0.0 | num | num |", "0.0.0 | num | num |",
        "0.0.1 | num | num |", "1 | truth | num | unlike",
    ]),
    (call(fn("x", when(X, GAP, GAP)), ONE), [
        "/ | any0 | - |", "0 | truth to any0 | truth to any0 |", "0.0 | any0 | any0 |", "0.0.0 | truth | truth |",
        "0.0.1 | any0 | any0 |", "0.0.2 | any0 | any0 |", "1 | num | truth | unlike",
    ]),
    (plus(fn("x", X), ONE),
     ["/ | num | - |", "0 | any0 to any0 | num | unlike", "0.0 | any0 | any0 |", "1 | num | num |"]),
    (when(rec("f", "x", GAP), ONE, ONE), [
        "/ | num | - |", "0 | any0 to any1 | truth | unlike", "0.0 | any1 | any1 |", "1 | num | num |",
        "2 | num | num |",
    ]),
    # Of two uses of a name the later one is marked.
    (fn("x", when(X, plus(X, ONE), NUM)), [
        "/ | truth to num | - |", "0 | num | num |", "0.0 | truth | truth |", "0.1 | num | num |",
        "0.1.0 | truth | num | unlike", "0.1.1 | num | num |", "0.2 | num | num |",
    ]),
    (fn("x", when(less(X, ONE), X, YES)), [
        "/ | num to num | - |", "0 | num | num |", "0.0 | truth | truth |", "0.0.0 | num | num |",
        "0.0.1 | num | num |", "0.1 | num | num |", "0.2 | truth | num | unlike",
    ]),
    (fn("x", plus(X, when(X, ONE, ONE))), [
        "/ | num to num | - |", "0 | num | num |", "0.0 | num | num |", "0.1 | num | num |",
        "0.1.0 | num | truth | unlike", "0.1.1 | num | num |", "0.1.2 | num | num |",
    ]),
    # A kind would have to hold itself.
    (fn("x", call(X, X)), [
        "/ | (any0 to any1) to any1 | - |", "0 | any1 | any1 |", "0.0 | any0 to any1 | any0 to any1 |",
        "0.1 | any0 to any1 | any0 | unlike",
    ]),
    (let("x", GAP, call(X, X)), [
        "/ | any0 | - |", "0 | any1 to any0 | any1 to any0 |", "1 | any0 | any0 |",
        "1.0 | any1 to any0 | any1 to any0 |", "1.1 | any1 to any0 | any1 | unlike",
    ]),
    (fn("x", fn("y", when(call(X, Y), call(Y, X), GAP))), [
        "/ | ((any0 to any1) to truth) to (any0 to any1) to any1 | - |",
        "0 | (any0 to any1) to any1 | (any0 to any1) to any1 |", "0.0 | any1 | any1 |", "0.0.0 | truth | truth |",
        "0.0.0.0 | (any0 to any1) to truth | (any0 to any1) to truth |", "0.0.0.1 | any0 to any1 | any0 to any1 |",
        "0.0.1 | any1 | any1 |", "0.0.1.0 | any0 to any1 | any0 to any1 |",
        "0.0.1.1 | (any0 to any1) to truth | any0 | unlike", "0.0.2 | any1 | any1 |",
    ]),
    # What is beneath a marked form still counts.
    (let("y", GAP, plus(fn("x", plus(Y, X)), when(Y, ONE, ONE))), [
        "/ | num | - |", "0 | num | num |", "1 | num | num |", "1.0 | num to num | num | unlike",
        "1.0.0 | num | num |", "1.0.0.0 | num | num |", "1.0.0.1 | num | num |", "1.1 | num | num |",
        "1.1.0 | num | truth | unlike", "1.1.1 | num | num |", "1.1.2 | num | num |",
    ]),
    # What is marked itself does not: the name keeps the kind of its other use.
    (fn("x", when(plus(X, YES), less(X, ONE), GAP)), [
        "/ | num to truth | - |", "0 | truth | truth |", "0.0 | num | truth | unlike", "0.0.0 | num | num |",
        "0.0.1 | truth | num | unlike", "0.1 | truth | truth |", "0.1.0 | num | num |", "0.1.1 | num | num |",
        "0.2 | truth | truth |",
    ]),
    # Functions that are alike in one half only: a marked place settles nothing of the other half either.
    (let("g", fn("a", YES), plus(call(G, NUM), GAP)), [
        "/ | num | - |", "0 | any0 to truth | any0 to truth |", "0.0 | truth | truth |", "1 | num | num |",
        "1.0 | num | num |", "1.0.0 | any0 to truth | num to num | unlike", "1.0.1 | num | num |", "1.1 | num | num |",
    ]),
    (let("g", fn("a", when(A, GAP, GAP)), when(GAP, fn("x", when(less(X, ONE), GAP, GAP)), G)), [
        "/ | num to any0 | - |", "0 | truth to any1 | truth to any1 |", "0.0 | any1 | any1 |",
        "0.0.0 | truth | truth |", "0.0.1 | any1 | any1 |", "0.0.2 | any1 | any1 |",
        "1 | num to any0 | num to any0 |", "1.0 | truth | truth |", "1.1 | num to any0 | num to any0 |",
        "1.1.0 | any0 | any0 |", "1.1.0.0 | truth | truth |", "1.1.0.0.0 | num | num |", "1.1.0.0.1 | num | num |",
        "1.1.0.1 | any0 | any0 |", "1.1.0.2 | any0 | any0 |", "1.2 | truth to any1 | num to any0 | unlike",
    ]),
]

ODD_AND_FREE = [
    (plus(ODD, X), ["/ | num | - |", "0 | num | num | odd", "1 | num | num | free"]),
    (when(ODD, X, Y),
     ["/ | any0 | - |", "0 | truth | truth | odd", "1 | any0 | any0 | free", "2 | any0 | any0 | free"]),
    # A free name is of another kind each time.
    (let("y", X, less(X, when(X, ONE, GAP))), [
        "/ | truth | - |", "0 | any0 | any0 | free", "1 | truth | truth |", "1.0 | num | num | free",
        "1.1 | num | num |", "1.1.0 | truth | truth | free", "1.1.1 | num | num |", "1.1.2 | num | num |",
    ]),
    (fn("x", fn("y", ODD)), [
        "/ | any0 to any1 to any2 | - |", "0 | any1 to any2 | any1 to any2 |", "0.0 | any2 | any2 | odd",
    ]),
]

NUMBERED = [
    # As they first come: in a row the given one ahead of the asked one, within a kind from left to right.
    (let("x", GAP, let("y", GAP, GAP)), [
        "/ | any0 | - |", "0 | any1 | any1 |", "1 | any0 | any0 |", "1.0 | any2 | any2 |", "1.1 | any0 | any0 |",
    ]),
    (let("x", fn("x", GAP), fn("y", GAP)), [
        "/ | any0 to any1 | - |", "0 | any2 to any3 | any2 to any3 |", "0.0 | any3 | any3 |",
        "1 | any0 to any1 | any0 to any1 |", "1.0 | any1 | any1 |",
    ]),
    (fn("x", fn("y", fn("f", call(F, Y)))), [
        "/ | any0 to any1 to (any1 to any2) to any2 | - |",
        "0 | any1 to (any1 to any2) to any2 | any1 to (any1 to any2) to any2 |",
        "0.0 | (any1 to any2) to any2 | (any1 to any2) to any2 |", "0.0.0 | any2 | any2 |",
        "0.0.0.0 | any1 to any2 | any1 to any2 |", "0.0.0.1 | any1 | any1 |",
    ]),
    (fn("f", call(call(F, GAP), GAP)), [
        "/ | (any0 to any1 to any2) to any2 | - |", "0 | any2 | any2 |", "0.0 | any1 to any2 | any1 to any2 |",
        "0.0.0 | any0 to any1 to any2 | any0 to any1 to any2 |", "0.0.1 | any0 | any0 |", "0.1 | any1 | any1 |",
    ]),
    # Only at a marked place do the two differ; there the given one comes first.
    (plus(call(fn("x", X), GAP), when(call(YES, GAP), fn("y", GAP), GAP)), [
        "/ | num | - |", "0 | num | num |", "0.0 | num to num | num to num |", "0.0.0 | num | num |",
        "0.1 | num | num |", "1 | num | num |", "1.0 | truth | truth |", "1.0.0 | truth | any0 to truth | unlike",
        "1.0.1 | any0 | any0 |", "1.1 | any1 to any2 | num | unlike", "1.1.0 | any2 | any2 |", "1.2 | num | num |",
    ]),
    (fn("x", call(fn("f", call(F, F)), GAP)), [
        "/ | any0 to any1 | - |", "0 | any1 | any1 |",
        "0.0 | (any2 to any1) to any1 | (any2 to any1) to any1 |", "0.0.0 | any1 | any1 |",
        "0.0.0.0 | any2 to any1 | any2 to any1 |", "0.0.0.1 | any2 to any1 | any2 | unlike",
        "0.1 | any2 to any1 | any2 to any1 |",
    ]),
    (let("x", call(NUM, GAP), fn("y", X)), [
        "/ | any0 to any1 | - |", "0 | any1 | any1 |", "0.0 | num | any2 to any1 | unlike", "0.1 | any2 | any2 |",
        "1 | any0 to any1 | any0 to any1 |", "1.0 | any1 | any1 |",
    ]),
]

BY_HAND = EACH_WORD + BINDINGS + CALLS + UNLIKE + ODD_AND_FREE + NUMBERED

TREES = [tree for tree, rows in BY_HAND] + ONE_OF_EACH + [ALL_WORDS]


def nested(many, last=GAP):
    """As many functions within one another, around `last`."""
    tree = last
    for number in range(many):
        tree = fn("x", tree)
    return tree


# Trees of as many forms, broad ones and deep ones.
SIZED = {
    1: [GAP, NUM, X, ODD],
    39: [bush(39), nested(38)],
    40: [fn("x", bush(39)), nested(39), nested(37, plus(X, X)), nested(39, X), rec("f", "x", bush(39))],
    41: [bush(41), nested(40), nested(40, X), nested(38, plus(YES, X)), fn("x", nested(39, ODD))],
    42: [fn("x", bush(41)), nested(41, NUM)],
    100: [fn("x", bush(99)), nested(61, bush(39))],
    250: [fn("x", bush(249)), nested(61, bush(189)), let("x", nested(68), fn("y", bush(179)))],
    253: [bush(253), nested(90, bush(163))],
}


def blanked_by_hand(tree, marked, place=()):
    """The tree with gaps at the marked places, from the top down: another way than the program's own."""
    if place in marked:
        return GAP
    parts = [blanked_by_hand(part, marked, place + (number,)) for number, part in enumerate(tree[2])]
    return (tree[0], tree[1], tuple(parts))


class LooksTest(unittest.TestCase):
    def holds(self, pairs):
        for tree, rows in pairs:
            with self.subTest(tree=tree):
                self.assertEqual(looks(tree), [row_of(row) for row in rows])

    def test_each_word(self):
        self.assertEqual(len({tree[0] for tree, rows in EACH_WORD}), 13)
        self.holds(EACH_WORD)

    def test_bindings(self):
        self.holds(BINDINGS)

    def test_calls(self):
        self.holds(CALLS)

    def test_unlike(self):
        self.holds(UNLIKE)

    def test_odd_and_free(self):
        self.holds(ODD_AND_FREE)

    def test_numbers_of_unknown_kinds(self):
        self.holds(NUMBERED)

    def test_a_wrong_form_at_each_part(self):
        truths, numbers, functions = [YES, NO, less(ONE, ONE)], [NUM, plus(ONE, ONE)], [fn("x", X), rec("f", "x", GAP)]
        for make in (plus, minus, less):
            for wrong in truths + functions:
                self.assertEqual(marks(make(wrong, GAP)), [((0,), "unlike")])
                self.assertEqual(marks(make(GAP, wrong)), [((1,), "unlike")])
                self.assertEqual(marks(make(wrong, ONE)), [((0,), "unlike")])
                self.assertEqual(marks(make(ONE, wrong)), [((1,), "unlike")])
                self.assertEqual(marks(make(wrong, wrong)), [((0,), "unlike"), ((1,), "unlike")])
            for right in numbers:
                self.assertEqual(marks(make(right, right)), [])
        for right in truths:
            self.assertEqual(marks(when(right, GAP, GAP)), [])
        for wrong in numbers + functions:
            self.assertEqual(marks(when(wrong, GAP, GAP)), [((0,), "unlike")])
        for first in (truths, numbers, functions):
            for second in (truths, numbers, functions):
                told = [] if first == second else [((2,), "unlike")]
                self.assertEqual(marks(when(GAP, first[0], second[1])), told)
                told = [] if first == second else [((1,), "unlike")]
                self.assertEqual(marks(call(fn("x", when(GAP, X, first[0])), second[1])), told)
        for wrong in truths + numbers:
            self.assertEqual(marks(call(wrong, GAP)), [((0,), "unlike")])
        for right in functions:
            self.assertEqual(marks(call(right, GAP)), [])

    def test_the_top_is_never_unlike(self):
        for tree in TREES + busy_trees(1, 200, 1, 20) + grown_trees(1, 200, 20):
            top = looks(tree)[0]
            self.assertEqual(top[0], ())
            self.assertIsNone(top[2])
            expected = {"odd": "odd", "name": "free"}.get(tree[0], "")
            self.assertEqual(top[3], expected)

    def test_odd_texts_and_free_names_always_fit(self):
        for tree in busy_trees(2, 300, 1, 40) + grown_trees(2, 300, 40):
            for place, given, asked, mark in looks(tree):
                form = form_at(tree, place)
                self.assertEqual(mark == "odd", form[0] == "odd")
                if mark in ("odd", "free"):
                    self.assertIn(asked, (given, None))
                if mark == "free":
                    self.assertEqual(form[0], "name")
                if form == GAP:
                    self.assertEqual(mark, "")

    def test_each_odd_text_and_each_name(self):
        for text in ("then", "=", "=>", "007", "x+1", "!", "~" * 60, "in"):
            odd = ("odd", text, ())
            self.assertEqual(looks(odd), [((), ("any", 0), None, "odd")])
            self.assertEqual(marks(plus(odd, when(odd, odd, GAP))), [((0,), "odd"), ((1, 0), "odd"), ((1, 1), "odd")])
        for text in ("a", "_", "abcdefgh", "zz"):
            self.assertEqual(looks(name(text)), [((), ("any", 0), None, "free")])
            self.assertEqual(marks(fn("x", call(name(text), X))), [((0, 0), "free")])
            self.assertEqual(marks(fn(text, name(text))), [])

    def test_rows_are_tuples_for_each_place(self):
        for tree in TREES + busy_trees(3, 200, 1, 40):
            told = looks(tree)
            self.assertIs(type(told), list)
            self.assertEqual([row[0] for row in told], places(tree))
            for row in told:
                self.assertIs(type(row), tuple)
                self.assertEqual(len(row), 4)
                self.assertIs(type(row[0]), tuple)
                self.assertEqual(row[2] is None, row[0] == ())
                self.assertIn(row[3], ("", "unlike", "odd", "free"))

    def test_lists_are_the_askers_own(self):
        for tree, rows in BY_HAND:
            told = [row_of(row) for row in rows]
            check_own_lists(self, lambda: looks(tree), told)
            check_own_lists(self, lambda: marks(tree), [(row[0], row[3]) for row in told if row[3]])

    def test_nothing_hangs_on_what_was_asked_ahead(self):
        for turn in range(2):
            self.holds(BY_HAND[::-1])
            for tree, rows in BY_HAND:
                for place, given, asked, mark in [row_of(row) for row in rows][::-1]:
                    self.assertEqual(kind_at(tree, place), given)

    def test_a_kind_that_would_be_great_if_it_were_written_out(self):
        tree = name("f")
        for inner, outer in zip("edcba", "fedcb"):
            tree = let(outer, fn("x", when(GAP, name("x"), name(inner))), tree)
        tree = let("a", fn("x", X), tree)
        self.assertEqual(size(tree), 34)
        kind = ("any", 0)
        for level in range(6):
            kind = ("to", kind, kind)
        self.assertEqual(kind_at(tree, ()), kind)
        self.assertEqual(marks(tree), [])


class MarksTest(unittest.TestCase):
    def test_by_hand(self):
        for tree, rows in BY_HAND:
            with self.subTest(tree=tree):
                told = [row_of(row) for row in rows]
                self.assertEqual(marks(tree), [(row[0], row[3]) for row in told if row[3]])

    def test_several_at_once(self):
        tree = let("x", plus(YES, Y), when(ODD, call(X, call(X, X)), fn("y", less(Y, fn("f", ODD)))))
        self.assertEqual(marks(tree), [
            ((0, 0), "unlike"), ((0, 1), "free"), ((1, 0), "odd"), ((1, 1, 0), "unlike"), ((1, 1, 1, 0), "unlike"),
            ((1, 2, 0, 1), "unlike"), ((1, 2, 0, 1, 0), "odd"),
        ])

    def test_pairs_in_reading_order(self):
        for tree in TREES + busy_trees(4, 300, 1, 40):
            told = marks(tree)
            self.assertIs(type(told), list)
            self.assertEqual(told, [(row[0], row[3]) for row in looks(tree) if row[3]])
            for pair in told:
                self.assertIs(type(pair), tuple)


class KindAtTest(unittest.TestCase):
    def test_by_hand(self):
        for tree, rows in BY_HAND:
            for place, given, asked, mark in [row_of(row) for row in rows]:
                with self.subTest(tree=tree, place=place):
                    self.assertEqual(kind_at(tree, place), given)

    def test_as_in_looks(self):
        for tree in TREES + busy_trees(5, 100, 1, 40):
            for place, given, asked, mark in looks(tree):
                self.assertEqual(kind_at(tree, place), given)

    def test_no_place(self):
        for tree in ONE_OF_EACH + [ALL_WORDS, chain(9), fn("x", call(X, X))]:
            for place in no_places(tree):
                with self.assertRaises(NoPlace) as caught:
                    kind_at(tree, place)
                self.assertEqual(caught.exception.place, place)
                self.assertIs(type(caught.exception.place), tuple)

    def test_no_place_by_hand(self):
        tree = let("x", NUM, fn("y", X))
        for place in ((2,), (-1,), (0, 0), (1, 1), (1, -1), (1, 0, 0), (10 ** 30,), (-1, 0), (2, 0, 0), (-2, 0)):
            with self.assertRaises(NoPlace) as caught:
                kind_at(tree, place)
            self.assertEqual(caught.exception.place, place)
        self.assertEqual(kind_at(tree, (1, 0)), ("num",))


class BlankedTest(unittest.TestCase):
    def test_by_hand(self):
        for tree, made in [
            (ODD, GAP),
            (X, GAP),
            (GAP, GAP),
            (plus(YES, ONE), plus(GAP, ONE)),
            (plus(ODD, X), plus(GAP, GAP)),
            (fn("x", call(X, X)), fn("x", call(X, GAP))),
            (rec("f", "x", F), rec("f", "x", GAP)),
            (when(GAP, NUM, fn("x", YES)), when(GAP, NUM, GAP)),
            (plus(fn("x", ODD), ONE), plus(GAP, ONE)),
            (plus(fn("x", plus(YES, fn("y", ODD))), ODD), plus(GAP, GAP)),
            (let("x", X, X), let("x", GAP, X)),
            (call(NUM, fn("x", less(X, NO))), call(GAP, fn("x", less(X, GAP)))),
            # What was marked for the sake of a form that goes too is a gap nevertheless.
            (let("y", GAP, plus(fn("x", plus(Y, X)), when(Y, ONE, ONE))),
             let("y", GAP, plus(GAP, when(GAP, ONE, ONE)))),
        ]:
            with self.subTest(tree=tree):
                self.assertEqual(blanked(tree), made)

    def test_each_marked_form_and_nothing_else(self):
        for tree in TREES + busy_trees(6, 500, 1, 40) + grown_trees(6, 500, 40):
            marked = {place for place, mark in marks(tree)}
            made = blanked(tree)
            self.assertEqual(made, blanked_by_hand(tree, marked))
            self.assertEqual(made == tree, not marked)

    def test_has_no_mark(self):
        many = 0
        for tree in TREES + busy_trees(7, 1200, 1, 40) + grown_trees(7, 600, 40):
            many += len(marks(tree)) > 0
            self.assertEqual(marks(blanked(tree)), [])
            self.assertEqual(blanked(blanked(tree)), blanked(tree))
        self.assertGreater(many, 1000)

    def test_without_marks_to_itself(self):
        for tree in busy_trees(8, 300, 1, 40):
            made = blanked(tree)
            self.assertEqual(blanked(made), made)


class TooBigTest(unittest.TestCase):
    def test_sizes(self):
        for many, trees in SIZED.items():
            for tree in trees:
                self.assertEqual(size(tree), many)
                self.assertLessEqual(max(map(len, places(tree))), 69 if many <= 250 else 97)

    def test_at_most_40_are_told_of(self):
        for many in (1, 39, 40):
            for tree in SIZED[many] + busy_trees(many, 20, many, many):
                self.assertEqual(len(looks(tree)), many)
                self.assertLessEqual(len(marks(tree)), many)
                self.assertEqual(marks(blanked(tree)), [])
                for place in places(tree):
                    self.assertIn(kind_at(tree, place)[0], ("num", "truth", "to", "any"))

    def test_40_forms_by_hand(self):
        kind = ("any", 39)
        for number in range(38, -1, -1):
            kind = ("to", ("any", number), kind)
        self.assertEqual(kind_at(nested(39), ()), kind)
        kind = ("any", 38)
        for number in range(38, -1, -1):
            kind = ("to", ("any", number), kind)
        self.assertEqual(kind_at(nested(39, X), ()), kind)
        self.assertEqual(marks(nested(37, plus(X, YES))), [((0,) * 37 + (1,), "unlike")])
        self.assertEqual(blanked(nested(37, plus(X, YES))), nested(37, plus(X, GAP)))

    def test_more_are_refused(self):
        for many in (41, 42, 100, 250, 253):
            for tree in SIZED[many] + busy_trees(many, 20, many, many):
                for ask in (looks, marks, blanked):
                    with self.assertRaises(TooBig):
                        ask(tree)
                for place in ((), (0,), (0, 0)):
                    with self.assertRaises(TooBig):
                        kind_at(tree, place)

    def test_too_big_ahead_of_no_place(self):
        for many in (41, 250):
            for tree in SIZED[many]:
                for place in ((3,), (-1,), (0,) * 80, (10 ** 18, 0), (0, -1)):
                    with self.assertRaises(GapError) as caught:
                        kind_at(tree, place)
                    self.assertIs(type(caught.exception), TooBig)
        for tree in SIZED[40]:
            with self.assertRaises(NoPlace):
                kind_at(tree, (3,))


if __name__ == "__main__":
    unittest.main()
