import unittest

from gapscribe.errors import NoForm
from gapscribe.forms import GAP, bare, is_form, many_parts
from tests.samples import (
    ALL_WORDS, BAD_NOTES, GOOD_NOTES, MANY_PARTS, NAME, NO_WORDS, OF_NO_WORD, ONE_OF_EACH, around, bush, chain,
    wrong_things,
)


class FormTest(unittest.TestCase):
    def test_the_gap(self):
        self.assertEqual(GAP, ("gap", None, ()))
        self.assertIs(is_form(GAP), True)

    def test_one_of_each_word(self):
        self.assertEqual(sorted(form[0] for form in ONE_OF_EACH), sorted(MANY_PARTS))
        for form in ONE_OF_EACH:
            with self.subTest(form=form):
                self.assertIs(is_form(form), True)
                for tree in around(form):
                    self.assertIs(is_form(tree), True)

    def test_each_note_that_a_word_may_have(self):
        for word, notes in GOOD_NOTES.items():
            for note in notes:
                with self.subTest(word=word, note=note):
                    self.assertIs(is_form((word, note, (NAME,) * MANY_PARTS[word])), True)

    def test_wrong_things(self):
        for number, thing in enumerate(wrong_things()):
            with self.subTest(number=number):
                self.assertIs(is_form(thing), False)

    def test_wrong_things_deep_within(self):
        for number, thing in enumerate(wrong_things()):
            for tree in around(thing):
                with self.subTest(number=number, word=tree[2][1][2][1][0]):
                    self.assertIs(is_form(tree), False)

    def test_great_and_deep_trees(self):
        for tree in (ALL_WORDS, chain(69), chain(90), bush(249), bush(301)):
            self.assertIs(is_form(tree), True)
        for wrong in (None, ("num", True, ()), ("gap", None, []), ("fn", "x", ())):
            self.assertIs(is_form(chain(69, wrong)), False)

    def test_deeper_than_calls_may_nest(self):
        self.assertIs(is_form(chain(5000)), True)
        self.assertIs(is_form(chain(5000, None)), False)

    def test_what_is_handed_in_stays(self):
        thing = ["gap", None, [1, 2]]
        self.assertIs(is_form(thing), False)
        self.assertIs(is_form(("fn", "x", thing)), False)
        self.assertEqual(thing, ["gap", None, [1, 2]])

    def test_nothing_hangs_on_what_was_asked_ahead(self):
        for turn in range(2):
            self.assertIs(is_form(("num", 1, ())), True)
            self.assertIs(is_form(("num", True, ())), False)
            self.assertIs(is_form(("truth", True, ())), True)
            self.assertIs(is_form(("truth", 1, ())), False)


class ManyPartsTest(unittest.TestCase):
    def test_each_word(self):
        for word, many in MANY_PARTS.items():
            with self.subTest(word=word):
                self.assertEqual(many_parts(word), many)
                self.assertIs(type(many_parts(word)), int)

    def test_no_word(self):
        for number, thing in enumerate(NO_WORDS):
            with self.subTest(number=number), self.assertRaises(NoForm):
                many_parts(thing)


class BareTest(unittest.TestCase):
    def test_each_word_with_each_note(self):
        for word, notes in GOOD_NOTES.items():
            for note in notes:
                with self.subTest(word=word, note=note):
                    made = bare(word, note)
                    self.assertEqual(made, (word, note, (GAP,) * MANY_PARTS[word]))
                    self.assertEqual(len(made[2]), many_parts(word))
                    self.assertIs(is_form(made), True)
                    self.assertIs(type(made[1]), type(note))

    def test_no_word(self):
        for number, thing in enumerate(NO_WORDS):
            for note in (None, "x", 7, True, ("f", "x"), []):
                with self.subTest(number=number, note=note), self.assertRaises(NoForm):
                    bare(thing, note)

    def test_notes_that_the_word_may_not_have(self):
        for word, notes in BAD_NOTES.items():
            for number, note in enumerate(notes + OF_NO_WORD):
                with self.subTest(word=word, number=number), self.assertRaises(NoForm):
                    bare(word, note)

    def test_a_note_handed_in_stays(self):
        note = ["f", "x"]
        with self.assertRaises(NoForm):
            bare("rec", note)
        self.assertEqual(note, ["f", "x"])


if __name__ == "__main__":
    unittest.main()
