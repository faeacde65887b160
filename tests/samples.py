"""Forms that several test files draw on."""

from gapscribe.forms import GAP

NUM = ("num", 7, ())
YES = ("truth", True, ())
NAME = ("name", "x", ())
ODD = ("odd", "x+1", ())

# One form of each of the thirteen words, with parts that differ from one another.
ONE_OF_EACH = [
    GAP,
    ODD,
    NUM,
    YES,
    NAME,
    ("plus", None, (NUM, GAP)),
    ("minus", None, (NAME, NUM)),
    ("less", None, (GAP, NUM)),
    ("call", None, (NAME, GAP)),
    ("if", None, (YES, NUM, GAP)),
    ("fn", "x", (NAME,)),
    ("rec", ("f", "x"), (GAP,)),
    ("let", "x", (NUM, NAME)),
]

MANY_PARTS = {
    "gap": 0, "odd": 0, "num": 0, "truth": 0, "name": 0,
    "plus": 2, "minus": 2, "less": 2, "call": 2,
    "if": 3, "fn": 1, "rec": 1, "let": 2,
}

# A tree in which all of the words stand.
ALL_WORDS = (
    "let", "f", (
        ("rec", ("g", "n"), (
            ("if", None, (
                ("less", None, (("name", "n", ()), NUM)),
                GAP,
                ("call", None, (
                    ("name", "g", ()),
                    ("minus", None, (("name", "n", ()), ("num", 1, ()))),
                )),
            )),
        )),
        ("plus", None, (
            ("call", None, (("fn", "y", (GAP,)), YES)),
            ODD,
        )),
    ),
)

ALL_WORDS_PLACES = [
    (),
    (0,),
    (0, 0),
    (0, 0, 0),
    (0, 0, 0, 0),
    (0, 0, 0, 1),
    (0, 0, 1),
    (0, 0, 2),
    (0, 0, 2, 0),
    (0, 0, 2, 1),
    (0, 0, 2, 1, 0),
    (0, 0, 2, 1, 1),
    (1,),
    (1, 0),
    (1, 0, 0),
    (1, 0, 0, 0),
    (1, 0, 1),
    (1, 1),
]

ALL_WORDS_GAPS = [(0, 0, 1), (1, 0, 0, 0)]


def chain(many, last=GAP):
    """Forms of `fn` and `plus` by turns, `many` of them nested, around `last`."""
    tree = last
    for number in range(many):
        tree = ("fn", "x", (tree,)) if number % 2 else ("plus", None, (NUM, tree))
    return tree


def bush(many):
    """A broad tree of `many` forms (an odd number)."""
    row = [GAP] * ((many + 1) // 2)
    while len(row) > 1:
        pairs = [("call", None, (row[k], row[k + 1])) for k in range(0, len(row) - 1, 2)]
        row = pairs + row[len(pairs) * 2:]
    return row[0]
