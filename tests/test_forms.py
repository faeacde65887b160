import unittest

from gapscribe.errors import NoForm
from gapscribe.forms import GAP, bare, is_form, many_parts
from tests.samples import ALL_WORDS, MANY_PARTS, NAME, NUM, ODD, ONE_OF_EACH, YES, bush, chain


class Anything:
    """Says that it is like everything, and can't be looked up."""

    __hash__ = None

    def __eq__(self, other):
        return True


class Refusing:
    """Can be neither likened, nor shown, nor taken for true or false."""

    __hash__ = None

    def __eq__(self, other):
        raise RuntimeError

    def __bool__(self):
        raise RuntimeError

    def __repr__(self):
        raise RuntimeError


NAMES = ["x", "_", "abcdefgh", "lets"]
ODDS = ["then", "=", "007", "!" * 60]
GOOD_NOTES = {
    "gap": [None], "plus": [None], "minus": [None], "less": [None], "call": [None], "if": [None],
    "odd": ODDS,
    "num": [0, 1, 42, 10 ** 18 - 1],
    "truth": [True, False],
    "name": NAMES, "fn": NAMES, "let": NAMES,
    "rec": [("f", "x"), ("x", "x"), ("abcdefgh", "_")],
}

OF_NO_WORD = [
    1.0, 0.0, 10 ** 18, -1, "", "()", "a b", "x\n", [], ["f", "x"], {}, {"x"}, (), ("f",),
    ("f", "x", "y"), ("f", 1), (1, "x"), ("let", "x"), ("f", "let"), ("f", None), (None, None),
    ["f"], b"x", object(), str, Anything(), Refusing(), (Anything(), Anything()), (["f"], "x"),
    10 ** 5000, GAP, (GAP, GAP),
]
BAD_NOTES = {
    "odd": ["x", "let", "?", "+", "7", "0", "9" * 18, "!" * 61, None, 7, True, ("then",)],
    "num": [-1, 10 ** 18, True, False, "0", "7", None, (7,), 7.0],
    "truth": [0, 1, None, "yes", "no", "True", (True,), 1.0],
    "name": ["let", "no", "X", "abcdefghi", "x1", None, 7, True, ("x",), ("f", "x")],
    "rec": ["x", "fx", None, 7, True, [("f", "x")], (("f", "x"),), ("f", "X"), ("x1", "x"), ("f", "")],
}
BAD_NOTES["fn"] = BAD_NOTES["name"]
BAD_NOTES["let"] = BAD_NOTES["name"]
for plain in ("gap", "plus", "minus", "less", "call", "if"):
    BAD_NOTES[plain] = ["x", "then", "None", 0, 7, True, False, ("f", "x")]

NO_WORDS = [
    None, True, False, 0, 1, 2, 1.0, "", "?", "Gap", "GAP", "gap ", " gap", "gap\n", "gaps", "ga", "nums",
    "in", "then", "else", "yes", "no", "x", "+", "true", "int", (), ("gap",), ("num",), GAP, [], ["gap"],
    {}, {"gap": 0}, {"gap"}, b"gap", object(), str, Anything(), Refusing(), 10 ** 5000,
]


def with_parts(form, parts):
    return (form[0], form[1], parts)


def wrong_things():
    """Things that are no forms, each for another reason."""
    wrong = [
        None, True, False, 0, 7, "gap", "?", "", (), [], {}, ("gap",), ("gap", None), ("gap", ()),
        ("gap", None, (), ()), ("gap", None, [], ()), ("gap", None, None), ("gap", None, ""),
        ("gap", None, {}), ("gap", None, 0), ["gap", None, ()], "gap", b"gap", ((), None, ()),
        object(), str, Anything(), Refusing(), (Anything(), Anything(), Anything()),
    ]
    wrong += [(word, None, ()) for word in NO_WORDS]
    for form in ONE_OF_EACH:
        wrong += [
            list(form), form[:2], form + (None,), form + ((),), with_parts(form, list(form[2])),
            with_parts(form, form[2] + (GAP,)), with_parts(form, form[2] + (GAP, GAP)),
            with_parts(form, None),
        ]
        if form[2]:
            wrong += [
                with_parts(form, form[2][:-1]), with_parts(form, form[2][1:]), with_parts(form, ()),
                with_parts(form, GAP[:len(form[2])]),
            ]
        wrong += [(form[0], note, form[2]) for note in BAD_NOTES[form[0]] + OF_NO_WORD]
    return wrong


def around(thing):
    """The thing deep within trees that are else forms, at each part of each word."""
    for form in ONE_OF_EACH:
        for number in range(len(form[2])):
            parts = form[2][:number] + (thing,) + form[2][number + 1:]
            yield ("let", "x", (NUM, ("if", None, (YES, with_parts(form, parts), ODD))))


class FormTest(unittest.TestCase):
    def test_the_gap(self):
        self.assertEqual(GAP, ("gap", None, ()))
        self.assertIs(is_form(GAP), True)

    def test_one_of_each_word(self):
        self.assertEqual(sorted(form[0] for form in ONE_OF_EACH), sorted(MANY_PARTS))
        for form in ONE_OF_EACH:
            with self.subTest(form=form):
                self.assertIs(is_form(form), True)
                for tree in around(form):
                    self.assertIs(is_form(tree), True)

    def test_each_note_that_a_word_may_have(self):
        for word, notes in GOOD_NOTES.items():
            for note in notes:
                with self.subTest(word=word, note=note):
                    self.assertIs(is_form((word, note, (NAME,) * MANY_PARTS[word])), True)

    def test_wrong_things(self):
        for number, thing in enumerate(wrong_things()):
            with self.subTest(number=number):
                self.assertIs(is_form(thing), False)

    def test_wrong_things_deep_within(self):
        for number, thing in enumerate(wrong_things()):
            for tree in around(thing):
                with self.subTest(number=number, word=tree[2][1][2][1][0]):
                    self.assertIs(is_form(tree), False)

    def test_great_and_deep_trees(self):
        for tree in (ALL_WORDS, chain(69), chain(90), bush(249), bush(301)):
            self.assertIs(is_form(tree), True)
        for wrong in (None, ("num", True, ()), ("gap", None, []), ("fn", "x", ())):
            self.assertIs(is_form(chain(69, wrong)), False)

    def test_deeper_than_calls_may_nest(self):
        self.assertIs(is_form(chain(5000)), True)
        self.assertIs(is_form(chain(5000, None)), False)

    def test_what_is_handed_in_stays(self):
        thing = ["gap", None, [1, 2]]
        self.assertIs(is_form(thing), False)
        self.assertIs(is_form(("fn", "x", thing)), False)
        self.assertEqual(thing, ["gap", None, [1, 2]])

    def test_nothing_hangs_on_what_was_asked_ahead(self):
        for turn in range(2):
            self.assertIs(is_form(("num", 1, ())), True)
            self.assertIs(is_form(("num", True, ())), False)
            self.assertIs(is_form(("truth", True, ())), True)
            self.assertIs(is_form(("truth", 1, ())), False)


class ManyPartsTest(unittest.TestCase):
    def test_each_word(self):
        for word, many in MANY_PARTS.items():
            with self.subTest(word=word):
                self.assertEqual(many_parts(word), many)
                self.assertIs(type(many_parts(word)), int)

    def test_no_word(self):
        for number, thing in enumerate(NO_WORDS):
            with self.subTest(number=number), self.assertRaises(NoForm):
                many_parts(thing)


class BareTest(unittest.TestCase):
    def test_each_word_with_each_note(self):
        for word, notes in GOOD_NOTES.items():
            for note in notes:
                with self.subTest(word=word, note=note):
                    made = bare(word, note)
                    self.assertEqual(made, (word, note, (GAP,) * MANY_PARTS[word]))
                    self.assertEqual(len(made[2]), many_parts(word))
                    self.assertIs(is_form(made), True)
                    self.assertIs(type(made[1]), type(note))

    def test_no_word(self):
        for number, thing in enumerate(NO_WORDS):
            for note in (None, "x", 7, True, ("f", "x"), []):
                with self.subTest(number=number, note=note), self.assertRaises(NoForm):
                    bare(thing, note)

    def test_notes_that_the_word_may_not_have(self):
        for word, notes in BAD_NOTES.items():
            for number, note in enumerate(notes + OF_NO_WORD):
                with self.subTest(word=word, number=number), self.assertRaises(NoForm):
                    bare(word, note)

    def test_a_note_handed_in_stays(self):
        note = ["f", "x"]
        with self.assertRaises(NoForm):
            bare("rec", note)
        self.assertEqual(note, ["f", "x"])


if __name__ == "__main__":
    unittest.main()
