"""Forms that several test files draw on."""

import contextlib
import inspect
import random
import sys

from gapscribe.forms import GAP
from gapscribe.places import form_at, places

NUM = ("num", 7, ())
YES = ("truth", True, ())
NO = ("truth", False, ())
NAME = ("name", "x", ())
ODD = ("odd", "x+1", ())


def num(number):
    return ("num", number, ())


def name(text):
    return ("name", text, ())


def plus(left, right):
    return ("plus", None, (left, right))


def minus(left, right):
    return ("minus", None, (left, right))


def less(left, right):
    return ("less", None, (left, right))


def call(first, second):
    return ("call", None, (first, second))


def when(first, second, third):
    return ("if", None, (first, second, third))


def fn(bound, part):
    return ("fn", bound, (part,))


def rec(first, second, part):
    return ("rec", (first, second), (part,))


def let(bound, first, second):
    return ("let", bound, (first, second))


# One form of each of the thirteen words, with parts that differ from one another.
ONE_OF_EACH = [
    GAP,
    ODD,
    NUM,
    YES,
    NAME,
    ("plus", None, (NUM, GAP)),
    ("minus", None, (NAME, NUM)),
    ("less", None, (GAP, NUM)),
    ("call", None, (NAME, GAP)),
    ("if", None, (YES, NUM, GAP)),
    ("fn", "x", (NAME,)),
    ("rec", ("f", "x"), (GAP,)),
    ("let", "x", (NUM, NAME)),
]

MANY_PARTS = {
    "gap": 0, "odd": 0, "num": 0, "truth": 0, "name": 0,
    "plus": 2, "minus": 2, "less": 2, "call": 2,
    "if": 3, "fn": 1, "rec": 1, "let": 2,
}

# A tree in which all of the words stand.
ALL_WORDS = (
    "let", "f", (
        ("rec", ("g", "n"), (
            ("if", None, (
                ("less", None, (("name", "n", ()), NUM)),
                GAP,
                ("call", None, (
                    ("name", "g", ()),
                    ("minus", None, (("name", "n", ()), ("num", 1, ()))),
                )),
            )),
        )),
        ("plus", None, (
            ("call", None, (("fn", "y", (GAP,)), YES)),
            ODD,
        )),
    ),
)

ALL_WORDS_PLACES = [
    (),
    (0,),
    (0, 0),
    (0, 0, 0),
    (0, 0, 0, 0),
    (0, 0, 0, 1),
    (0, 0, 1),
    (0, 0, 2),
    (0, 0, 2, 0),
    (0, 0, 2, 1),
    (0, 0, 2, 1, 0),
    (0, 0, 2, 1, 1),
    (1,),
    (1, 0),
    (1, 0, 0),
    (1, 0, 0, 0),
    (1, 0, 1),
    (1, 1),
]

ALL_WORDS_GAPS = [(0, 0, 1), (1, 0, 0, 0)]


def chain(many, last=GAP):
    """Forms of `fn` and `plus` by turns, `many` of them nested, around `last`."""
    tree = last
    for number in range(many):
        tree = ("fn", "x", (tree,)) if number % 2 else ("plus", None, (NUM, tree))
    return tree


def bush(many):
    """A broad tree of `many` forms (an odd number)."""
    row = [GAP] * ((many + 1) // 2)
    while len(row) > 1:
        pairs = [("call", None, (row[k], row[k + 1])) for k in range(0, len(row) - 1, 2)]
        row = pairs + row[len(pairs) * 2:]
    return row[0]


def grown(chance, many):
    """A tree of at most `many` forms (from 1 on), by chance, with names that are often bound twice."""
    words = [word for word in MANY_PARTS if MANY_PARTS[word] < many]
    word = chance.choice(words)
    names = [chance.choice("xyf") for number in range(2)]
    notes = {
        "odd": "then", "num": chance.randrange(3), "truth": chance.random() < 0.5, "name": names[0], "fn": names[0],
        "rec": tuple(names), "let": names[0],
    }
    left = many - 1
    parts = []
    for number in range(MANY_PARTS[word]):
        still = MANY_PARTS[word] - number - 1
        most = left - still
        parts.append(grown(chance, most if not still else chance.randint(1, most)))
        left -= size(parts[-1])
    return (word, notes.get(word), tuple(parts))


def size(tree):
    return len(places(tree))


def grown_trees(seed, many, most):
    """As many trees, each of at most `most` forms, always the same ones for a seed."""
    chance = random.Random(seed)
    return [grown(chance, chance.randint(1, most)) for number in range(many)]


def shares(chance, many, parts):
    """`many` dealt out to as many parts, at least 1 to each."""
    cuts = sorted(chance.sample(range(1, many), parts - 1))
    return [high - low for low, high in zip([0] + cuts, cuts + [many])]


def busy(chance, many, names=()):
    """A tree of just `many` forms, by chance, in which most names are bound and few forms are odd."""
    if many == 1:
        leaves = [GAP, num(chance.randrange(3)), chance.choice([YES, NO]), name(chance.choice("xyfg"))]
        leaves += [name(bound) for bound in names] * 2 + ([ODD] if chance.random() < 0.2 else [])
        return chance.choice(leaves)
    word = chance.choice([word for word in MANY_PARTS if 1 <= MANY_PARTS[word] < many])
    texts = [chance.choice("xyfg") for number in range(2)]
    note = {"fn": texts[0], "rec": tuple(texts), "let": texts[0]}.get(word)
    parts = []
    for number, share in enumerate(shares(chance, many - 1, MANY_PARTS[word])):
        # One sign each, so that a note is a row of the names it binds.
        bound = () if word == "let" and number == 0 else tuple(note or ())
        parts.append(busy(chance, share, tuple(names) + bound))
    return (word, note, tuple(parts))


def busy_trees(seed, many, least, most):
    """As many trees, each of `least` to `most` forms, always the same ones for a seed."""
    chance = random.Random(seed)
    return [busy(chance, chance.randint(least, most)) for number in range(many)]


NUMBER, TRUTH = ("num",), ("truth",)
STEP = ("to", NUMBER, NUMBER)
KINDS = [NUMBER, NUMBER, TRUTH, STEP, ("to", NUMBER, TRUTH), ("to", STEP, NUMBER), ("to", TRUTH, STEP)]


def fitting_leaf(chance, kind, around):
    """A gap, or a form without parts that gives this kind; a function where there is none."""
    names = [text for text, bound in dict(around).items() if bound == kind]
    leaves = [GAP] + [name(text) for text in names] * 3
    if kind == NUMBER:
        leaves += [num(chance.randrange(4)), num(chance.choice([5, 10 ** 18 - 1]))]
    elif kind == TRUTH:
        leaves += [YES, NO]
    elif not names:
        leaves += [fn("y", fitting_leaf(chance, kind[2], around + (("y", kind[1]),)))] * 2
    return chance.choice(leaves)


def counting_down(chance, deep, around):
    """A function that calls itself until its number is below 1."""
    within = around + (("f", STEP), ("n", NUMBER))
    further = call(name("f"), minus(name("n"), num(1)))
    make = chance.choice([lambda left, right: right, plus, minus, lambda left, right: let("x", left, right)])
    beside = fitting(chance, min(deep, 1), NUMBER, within)
    last = fitting(chance, min(deep, 1), NUMBER, within)
    return rec("f", "n", when(less(name("n"), num(1)), last, make(beside, further)))


def fitting(chance, deep, kind, around=()):
    """A tree without marks that gives this kind, of about so many levels, with gaps; `around` has pairs of bound names
    and their kinds."""
    if deep < 1 or chance.random() < 0.1:
        return fitting_leaf(chance, kind, around)
    other, text = chance.choice(KINDS), chance.choice("xyg")

    def part(wanted, *bound):
        return fitting(chance, deep - 1, wanted, around + bound)

    makes = [
        lambda: when(part(TRUTH), part(kind), part(kind)),
        lambda: let(text, part(other), part(kind, (text, other))),
        lambda: let(text, part(other), part(kind, (text, other))),
        lambda: call(part(("to", other, kind)), part(other)),
        lambda: call(part(("to", other, kind)), part(other)),
    ]
    if kind == NUMBER:
        makes += [lambda: plus(part(NUMBER), part(NUMBER)), lambda: minus(part(NUMBER), part(NUMBER))]
        makes += [lambda: call(counting_down(chance, deep - 1, around), num(chance.randrange(5)))]
    elif kind == TRUTH:
        makes += [lambda: less(part(NUMBER), part(NUMBER))] * 3
    else:
        makes += [lambda: fn(text, part(kind[2], (text, kind[1])))] * 4
        makes += [lambda: rec("f", text, part(kind[2], ("f", kind), (text, kind[1])))]
    if kind == STEP:
        makes += [lambda: counting_down(chance, deep - 1, around)] * 2
    return chance.choice(makes)()


def fitting_trees(seed, many, deep, most):
    """As many trees without marks, each of at most `most` forms, always the same ones for a seed."""
    chance = random.Random(seed)
    told = []
    while len(told) < many:
        tree = fitting(chance, deep, chance.choice([NUMBER, NUMBER, TRUTH, STEP]))
        if 1 < size(tree) <= most:
            told.append(tree)
    return told


def check_own_lists(test, tell, right):
    """What is told is right, and what the asker does to one list that was told shows in no other one."""
    first, second = tell(), tell()
    test.assertIsNot(first, second)
    first.append("more")
    first[0] = "other"
    test.assertEqual(second, right)
    second.clear()
    test.assertEqual(tell(), right)


class Anything:
    """Says that it is like everything, and can't be looked up."""

    __hash__ = None

    def __eq__(self, other):
        return True


class Refusing:
    """Can be neither likened, nor shown, nor taken for true or false."""

    __hash__ = None

    def __eq__(self, other):
        raise RuntimeError

    def __bool__(self):
        raise RuntimeError

    def __repr__(self):
        raise RuntimeError


NAMES = ["x", "_", "abcdefgh", "lets"]
ODDS = ["then", "=", "007", "!" * 60]
GOOD_NOTES = {
    "gap": [None], "plus": [None], "minus": [None], "less": [None], "call": [None], "if": [None],
    "odd": ODDS,
    "num": [0, 1, 42, 10 ** 18 - 1],
    "truth": [True, False],
    "name": NAMES, "fn": NAMES, "let": NAMES,
    "rec": [("f", "x"), ("x", "x"), ("abcdefgh", "_")],
}

OF_NO_WORD = [
    1.0, 0.0, 10 ** 18, -1, "", "()", "a b", "x\n", [], ["f", "x"], {}, {"x"}, (), ("f",),
    ("f", "x", "y"), ("f", 1), (1, "x"), ("let", "x"), ("f", "let"), ("f", None), (None, None),
    ["f"], b"x", object(), str, Anything(), Refusing(), (Anything(), Anything()), (["f"], "x"),
    10 ** 5000, GAP, (GAP, GAP),
]
BAD_NOTES = {
    "odd": ["x", "let", "?", "+", "7", "0", "9" * 18, "!" * 61, None, 7, True, ("then",)],
    "num": [-1, 10 ** 18, True, False, "0", "7", None, (7,), 7.0],
    "truth": [0, 1, None, "yes", "no", "True", (True,), 1.0],
    "name": ["let", "no", "X", "abcdefghi", "x1", None, 7, True, ("x",), ("f", "x")],
    "rec": ["x", "fx", None, 7, True, [("f", "x")], (("f", "x"),), ("f", "X"), ("x1", "x"), ("f", "")],
}
BAD_NOTES["fn"] = BAD_NOTES["name"]
BAD_NOTES["let"] = BAD_NOTES["name"]
for plain in ("gap", "plus", "minus", "less", "call", "if"):
    BAD_NOTES[plain] = ["x", "then", "None", 0, 7, True, False, ("f", "x")]

NO_WORDS = [
    None, True, False, 0, 1, 2, 1.0, "", "?", "Gap", "GAP", "gap ", " gap", "gap\n", "gaps", "ga", "nums",
    "in", "then", "else", "yes", "no", "x", "+", "true", "int", (), ("gap",), ("num",), GAP, [], ["gap"],
    {}, {"gap": 0}, {"gap"}, b"gap", object(), str, Anything(), Refusing(), 10 ** 5000,
]


def with_parts(form, parts):
    return (form[0], form[1], parts)


def wrong_things():
    """Things that are no forms, each for another reason."""
    wrong = [
        None, True, False, 0, 7, "gap", "?", "", (), [], {}, ("gap",), ("gap", None), ("gap", ()),
        ("gap", None, (), ()), ("gap", None, [], ()), ("gap", None, None), ("gap", None, ""),
        ("gap", None, {}), ("gap", None, 0), ["gap", None, ()], "gap", b"gap", ((), None, ()),
        object(), str, Anything(), Refusing(), (Anything(), Anything(), Anything()),
    ]
    wrong += [(word, None, ()) for word in NO_WORDS]
    for form in ONE_OF_EACH:
        wrong += [
            list(form), form[:2], form + (None,), form + ((),), with_parts(form, list(form[2])),
            with_parts(form, form[2] + (GAP,)), with_parts(form, form[2] + (GAP, GAP)),
            with_parts(form, None),
        ]
        if form[2]:
            wrong += [
                with_parts(form, form[2][:-1]), with_parts(form, form[2][1:]), with_parts(form, ()),
                with_parts(form, GAP[:len(form[2])]),
            ]
        wrong += [(form[0], note, form[2]) for note in BAD_NOTES[form[0]] + OF_NO_WORD]
    return wrong


def around(thing):
    """The thing deep within trees that are else forms, at each part of each word."""
    for form in ONE_OF_EACH:
        for number in range(len(form[2])):
            parts = form[2][:number] + (thing,) + form[2][number + 1:]
            yield ("let", "x", (NUM, ("if", None, (YES, with_parts(form, parts), ODD))))


FAR = [10 ** 6, 10 ** 18, 10 ** 30, 10 ** 5000]
BELOW = [-1, -2, -3, -4, -10 ** 18]


def no_places(tree):
    """Places that the tree has not: a wrong number at the end of each place, at the first, and in the midst."""
    told = places(tree)
    deepest = max(told, key=len)
    for place in told:
        many = len(form_at(tree, place)[2])
        for wrong in [many, many + 1] + FAR + BELOW:
            yield place + (wrong,)
            yield place + (wrong, 0)
            yield place + (wrong, 0, 1)
            yield place + (wrong,) + deepest[len(place) + 1:]


def thing(text):
    """A thing, written as figures, `yes`, `no`, or `#` and the number of a row."""
    if text in ("yes", "no"):
        return ("truth", text == "yes")
    return ("row", int(text[1:])) if text[0] == "#" else ("num", int(text))


def row(text):
    """A row, written as its word and place (`/` or numbers with dots), its operands, and its around as `name=thing`,
    with colons between these three."""
    top, operands, pairs = (text + ": : ").split(":")[:3]
    word, place = top.split()
    numbers = () if place == "/" else tuple(int(number) for number in place.split("."))
    around = [pair.split("=") for pair in pairs.split()]
    return (word, numbers, [thing(part) for part in operands.split()], [(bound, thing(part)) for bound, part in around])


def record(answer, steps, *rows):
    """A record, of things and rows that are written so."""
    return (thing(answer), [row(text) for text in rows], steps)


def lists_in(told):
    """Every list in a record."""
    return [told[1]] + [part for made in told[1] for part in made[2:]]


@contextlib.contextmanager
def few_calls(many):
    """While this lasts, no more calls than so many may be nested."""
    kept = sys.getrecursionlimit()
    sys.setrecursionlimit(len(inspect.stack(0)) + many)
    try:
        yield
    finally:
        sys.setrecursionlimit(kept)
