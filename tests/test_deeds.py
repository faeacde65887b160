import random
import unittest

from gapscribe.deeds import Change, Cut, Deed, Fill, Keep, Note, Put, Wrap
from gapscribe.errors import NoDeed, NoForm
from gapscribe.forms import GAP, is_form
from gapscribe.places import form_at, places, with_at
from tests.samples import (
    ALL_WORDS, BAD_NOTES, BELOW, FAR, GOOD_NOTES, MANY_PARTS, NAME, NO_WORDS, NUM, ODD, OF_NO_WORD, ONE_OF_EACH, YES,
    around, bush, chain, grown_trees, wrong_things,
)

FORMS = ONE_OF_EACH + [
    ALL_WORDS, chain(69), ("fn", "x", (bush(249),)),
    ("num", 0, ()), ("num", 1, ()), ("num", 10 ** 18 - 1, ()), ("truth", False, ()), ("name", "abcdefgh", ()),
    ("odd", "then", ()), ("plus", None, (GAP, GAP)), ("if", None, (GAP, GAP, GAP)), ("rec", ("x", "x"), (NUM,)),
]
WORDS_AND_NOTES = [(word, note) for word in GOOD_NOTES for note in GOOD_NOTES[word]]
WITH_NOTES = ["odd", "num", "truth", "name", "fn", "rec", "let"]
NOTES = [
    None, 0, 1, 42, 10 ** 18 - 1, True, False, "x", "abcdefgh", "then", "=", "007", ("f", "x"), ("x", "x"),
    -1, 10 ** 18, "", "let", "7", "?", "X Y", 1.0, 0.0, (), ("f",), ("f", "X"), ["f", "x"], [], {}, GAP,
]


def may_have(word, note):
    """Whether a form of the word has this note, of those that are tried: by lists, not by rules."""
    return any(type(good) is type(note) and good == note for good in GOOD_NOTES[word])


def with_gaps(word, note):
    return (word, note, (GAP,) * MANY_PARTS[word])


def wrapped(word, note, at, form):
    parts = [GAP] * MANY_PARTS[word]
    parts[at] = form
    return (word, note, tuple(parts))


def deeds_and_outcomes(form):
    """Pairs of a deed, and what it makes of the form: None where it is refused."""
    gap = form == GAP
    yield Deed(), form
    yield Cut(), None if gap else GAP
    for word, note in WORDS_AND_NOTES:
        if word != "gap":
            yield Put(word, note), with_gaps(word, note) if gap else None
        for at in range(MANY_PARTS[word]):
            yield Wrap(word, note, at), wrapped(word, note, at, form)
    for other in FORMS:
        if other != GAP:
            yield Fill(other), other if gap else None
        yield Change(other), other
    for at in [0, 1, 2, 3] + FAR + BELOW:
        yield Keep(at), form[2][at] if 0 <= at < len(form[2]) else None
    for note in NOTES:
        yield Note(note), (form[0], note, form[2]) if may_have(form[0], note) else None


class DeedsTest(unittest.TestCase):
    def same(self, told, form):
        """Alike, and of the same sort in the note: True is like 1."""
        self.assertEqual(told, form)
        self.assertIs(type(told), tuple)
        self.assertIs(type(told[1]), type(form[1]))
        self.assertIs(type(told[2]), tuple)

    def makes(self, deed, form, outcome):
        self.same(deed.done(form), outcome)
        self.same(deed.done(form), outcome)

    def refused(self, deed, form):
        for turn in range(2):
            with self.assertRaises(NoDeed):
                deed.done(form)
            with self.assertRaises(NoDeed):
                deed.back(form)

    def no_form(self, made, *given, **named):
        with self.assertRaises(NoForm):
            made(*given, **named)


class MadeTest(DeedsTest):
    def test_each_is_a_deed(self):
        for made in (Put("num", 7), Fill(NUM), Cut(), Wrap("fn", "x"), Keep(), Note("x"), Change(NUM), Deed()):
            self.assertIsInstance(made, Deed)
        for kind in (Put, Fill, Cut, Wrap, Keep, Note, Change):
            self.assertTrue(issubclass(kind, Deed))
            for other in (Put, Fill, Cut, Wrap, Keep, Note, Change):
                self.assertEqual(issubclass(kind, other), kind is other)

    def test_put_of_each_word_and_note(self):
        for word, note in WORDS_AND_NOTES:
            if word != "gap":
                with self.subTest(word=word, note=note):
                    self.makes(Put(word, note), GAP, with_gaps(word, note))
                    self.makes(Put(word, note=note), GAP, with_gaps(word, note))
                    self.makes(Put(word=word, note=note), GAP, with_gaps(word, note))

    def test_wrap_of_each_word_and_note(self):
        for word, note in WORDS_AND_NOTES:
            for at in range(MANY_PARTS[word]):
                with self.subTest(word=word, note=note, at=at):
                    outcome = wrapped(word, note, at, NUM)
                    self.makes(Wrap(word, note, at), NUM, outcome)
                    self.makes(Wrap(word, note, at=at), NUM, outcome)
                    self.makes(Wrap(word, note=note, at=at), NUM, outcome)
                    self.makes(Wrap(at=at, note=note, word=word), NUM, outcome)
                    if at == 0:
                        self.makes(Wrap(word, note), NUM, outcome)
                        self.makes(Wrap(word, note=note), NUM, outcome)

    def test_without_a_note(self):
        for word in MANY_PARTS:
            if word not in WITH_NOTES and word != "gap":
                with self.subTest(word=word):
                    self.makes(Put(word), GAP, with_gaps(word, None))
                    self.makes(Wrap(word), NUM, wrapped(word, None, 0, NUM))
                    for at in range(MANY_PARTS[word]):
                        self.makes(Wrap(word, at=at), NUM, wrapped(word, None, at, NUM))

    def test_a_missing_note(self):
        for word in WITH_NOTES:
            with self.subTest(word=word):
                self.no_form(Put, word)
                self.no_form(Put, word, None)
                self.no_form(Wrap, word)
                self.no_form(Wrap, word, None)
                self.no_form(Wrap, word, at=0)

    def test_keep_by_name_and_default(self):
        form = ("if", None, (YES, NUM, NAME))
        self.makes(Keep(), form, YES)
        self.makes(Keep(1), form, NUM)
        self.makes(Keep(at=2), form, NAME)

    def test_note_by_name(self):
        self.makes(Note(note="y"), NAME, ("name", "y", ()))

    def test_no_word(self):
        for number, thing in enumerate(NO_WORDS):
            for note in (None, "x", 7, True, ("f", "x"), []):
                with self.subTest(number=number, note=note):
                    self.no_form(Put, thing, note)
                    self.no_form(Wrap, thing, note)
                    self.no_form(Wrap, thing, note, 1)
            self.no_form(Put, thing)
            self.no_form(Wrap, thing)

    def test_notes_that_the_word_may_not_have(self):
        for word, notes in BAD_NOTES.items():
            for number, note in enumerate(notes + OF_NO_WORD):
                with self.subTest(word=word, number=number):
                    self.no_form(Put, word, note)
                    for at in range(max(1, MANY_PARTS[word])):
                        self.no_form(Wrap, word, note, at)

    def test_put_of_a_gap(self):
        self.no_form(Put, "gap")
        self.no_form(Put, "gap", None)
        self.no_form(Put, "gap", "x")

    def test_wrap_without_such_a_part(self):
        for word, note in WORDS_AND_NOTES:
            for at in [MANY_PARTS[word], MANY_PARTS[word] + 1] + FAR + BELOW:
                with self.subTest(word=word, note=note):
                    self.no_form(Wrap, word, note, at)
                    self.no_form(Wrap, word, note=note, at=at)

    def test_wrap_of_words_without_parts(self):
        for word, note in WORDS_AND_NOTES:
            if MANY_PARTS[word] == 0:
                with self.subTest(word=word, note=note):
                    self.no_form(Wrap, word, note)

    def test_fill_of_the_gap(self):
        self.no_form(Fill, GAP)
        self.no_form(Fill, ("gap", None, ()))

    def test_change_of_the_gap(self):
        self.makes(Change(GAP), NUM, GAP)

    def test_what_is_no_form(self):
        for number, thing in enumerate(wrong_things()):
            with self.subTest(number=number):
                self.no_form(Fill, thing)
                self.no_form(Change, thing)
                for tree in around(thing):
                    self.no_form(Fill, tree)
                    self.no_form(Change, tree)

    def test_wrong_at_the_bottom_of_a_deep_tree(self):
        for wrong in (None, ("num", True, ()), ("gap", None, []), ("fn", "x", ()), [], ("odd", "x", ())):
            self.no_form(Fill, chain(68, wrong))
            self.no_form(Change, chain(68, wrong))

    def test_what_is_handed_in_stays(self):
        word, note, thing = ["num"], ["f", "x"], ["gap", None, []]
        self.no_form(Put, word, note)
        self.no_form(Wrap, "rec", note)
        self.no_form(Fill, thing)
        self.no_form(Change, thing)
        self.refused(Note(note), ("rec", ("f", "x"), (GAP,)))
        self.assertEqual((word, note, thing), (["num"], ["f", "x"], ["gap", None, []]))

    def test_what_is_changed_later_changes_nothing(self):
        note = ["x"]
        deed = Note(note)
        self.refused(deed, NAME)
        note.clear()
        self.refused(deed, NAME)
        self.refused(deed, GAP)


class DoneTest(DeedsTest):
    def test_each_deed_to_each_form(self):
        for form in FORMS:
            for number, (deed, outcome) in enumerate(deeds_and_outcomes(form)):
                with self.subTest(word=form[0], kind=type(deed).__name__, number=number):
                    if outcome is None:
                        self.refused(deed, form)
                    else:
                        self.makes(deed, form, outcome)
                        self.assertIs(is_form(deed.done(form)), True)

    def test_one_deed_to_many_forms(self):
        deeds = [Deed(), Cut(), Put("num", 7), Fill(NUM), Wrap("let", "x", 1), Keep(1), Note("y"), Change(ODD)]
        for turn in range(2):
            for deed in deeds:
                for form in FORMS + FORMS[::-1]:
                    try:
                        told = deed.done(form)
                    except NoDeed:
                        told = None
                    self.assertEqual(told, self.outcome(deed, form))

    def outcome(self, deed, form):
        gap, many = form[0] == "gap", len(form[2])
        return {
            Deed: form,
            Cut: None if gap else GAP,
            Put: NUM if gap else None,
            Fill: NUM if gap else None,
            Wrap: ("let", "x", (GAP, form)),
            Keep: form[2][1] if many > 1 else None,
            Note: (form[0], "y", form[2]) if form[0] in ("name", "fn", "let") else None,
            Change: ODD,
        }[type(deed)]

    def test_put_by_hand(self):
        self.makes(Put("plus"), GAP, ("plus", None, (GAP, GAP)))
        self.makes(Put("if"), GAP, ("if", None, (GAP, GAP, GAP)))
        self.makes(Put("truth", False), GAP, ("truth", False, ()))
        self.makes(Put("rec", ("f", "x")), GAP, ("rec", ("f", "x"), (GAP,)))
        self.refused(Put("plus"), ("plus", None, (GAP, GAP)))

    def test_fill_by_hand(self):
        self.makes(Fill(ALL_WORDS), GAP, ALL_WORDS)
        for form in FORMS:
            if form != GAP:
                self.refused(Fill(form), form)

    def test_cut_by_hand(self):
        self.makes(Cut(), ALL_WORDS, GAP)
        self.makes(Cut(), ("plus", None, (GAP, GAP)), GAP)
        self.refused(Cut(), GAP)

    def test_wrap_by_hand(self):
        self.makes(Wrap("if", None, 1), ALL_WORDS, ("if", None, (GAP, ALL_WORDS, GAP)))
        self.makes(Wrap("fn", "x"), GAP, ("fn", "x", (GAP,)))
        self.makes(Wrap("minus", at=1), NUM, ("minus", None, (GAP, NUM)))

    def test_keep_where_there_is_no_such_part(self):
        for form in FORMS:
            for at in [len(form[2]), len(form[2]) + 1] + FAR + BELOW:
                self.refused(Keep(at), form)
        for form in (GAP, ODD, NUM, YES, NAME):
            for at in [0, 1, 2] + FAR + BELOW:
                self.refused(Keep(at), form)

    def test_note_of_each_word(self):
        for form in FORMS:
            for note in GOOD_NOTES[form[0]]:
                self.makes(Note(note), form, (form[0], note, form[2]))

    def test_note_that_leaves_all_as_it_was(self):
        for form in FORMS:
            self.makes(Note(form[1]), form, form)

    def test_note_that_no_form_has(self):
        for form in FORMS:
            for number, note in enumerate(BAD_NOTES[form[0]] + OF_NO_WORD):
                with self.subTest(word=form[0], number=number):
                    self.refused(Note(note), form)

    def test_note_by_hand(self):
        self.refused(Note(True), ("num", 1, ()))
        self.refused(Note(1), YES)
        self.refused(Note(0), ("truth", False, ()))
        self.refused(Note(None), NUM)
        self.refused(Note(None), ("fn", "x", (GAP,)))
        self.refused(Note("x"), GAP)
        self.refused(Note("x"), ("plus", None, (NUM, NUM)))
        self.refused(Note("x"), ("rec", ("f", "x"), (NUM,)))
        self.refused(Note(("f", "x")), ("fn", "x", (NUM,)))
        self.refused(Note("then"), NAME)
        self.refused(Note("x"), ODD)
        self.refused(Note(7), NAME)

    def test_deed_itself(self):
        for form in FORMS:
            self.makes(Deed(), form, form)
            self.makes(Deed().back(form), form, form)
            for other in FORMS:
                self.makes(Deed().back(form), other, other)

    def test_forms_that_were_handed_in_stay(self):
        for form in ONE_OF_EACH + [ALL_WORDS]:
            shown = repr(form)
            for deed, outcome in deeds_and_outcomes(form):
                if outcome is not None:
                    deed.done(form)
                    deed.back(form)
            self.assertEqual(repr(form), shown)


class BackTest(DeedsTest):
    def test_each_deed_and_each_form_that_it_fits(self):
        for form in FORMS:
            for number, (deed, outcome) in enumerate(deeds_and_outcomes(form)):
                if outcome is not None:
                    with self.subTest(word=form[0], kind=type(deed).__name__, number=number):
                        self.leads_back(deed, form, outcome)

    def leads_back(self, deed, form, outcome):
        ahead = deed.back(form)
        self.same(deed.done(form), outcome)
        for way_back in (ahead, deed.back(form)):
            self.assertIsInstance(way_back, Deed)
            self.makes(way_back, outcome, form)
            forth = way_back.back(outcome)
            self.assertIsInstance(forth, Deed)
            self.makes(forth, form, outcome)
            self.makes(forth.back(form), outcome, form)

    def test_back_and_forth_many_times(self):
        for form in ONE_OF_EACH:
            for deed, outcome in deeds_and_outcomes(form):
                if outcome is not None:
                    now, other = form, outcome
                    for turn in range(6):
                        deed = deed.back(now)
                        now, other = other, now
                        self.same(deed.done(now), other)

    def test_a_way_back_keeps_to_the_form_that_it_was_told_for(self):
        deed = Keep(0)
        one, other = ("plus", None, (NUM, YES)), ("let", "x", (NUM, NAME))
        backs = [deed.back(one), deed.back(other)]
        self.makes(backs[0], NUM, one)
        self.makes(backs[1], NUM, other)
        cut = Cut()
        backs = [cut.back(one), cut.back(other)]
        self.makes(backs[0], GAP, one)
        self.makes(backs[1], GAP, other)

    def test_refused_where_the_deed_is(self):
        for form in FORMS:
            for deed, outcome in deeds_and_outcomes(form):
                if outcome is None:
                    with self.assertRaises(NoDeed):
                        deed.back(form)

    def test_rows_of_many_deeds_and_their_ways_back(self):
        for seed, tree in enumerate(grown_trees(11, 40, 40)):
            chance = random.Random(seed)
            ahead, now = [], tree
            for turn in range(60):
                place = chance.choice(places(now))
                form = form_at(now, place)
                deed = chance.choice([pair[0] for pair in self.small_deeds(form) if pair[1] is not None])
                ahead.append((now, place, deed.back(form)))
                now = with_at(now, place, deed.done(form))
            for before, place, deed in reversed(ahead):
                now = with_at(now, place, deed.done(form_at(now, place)))
                self.same(now, before)
            self.same(now, tree)

    def small_deeds(self, form):
        gap = form == GAP
        yield Deed(), form
        yield Cut(), None if gap else GAP
        yield Change(NAME), NAME
        yield Note("y"), (form[0], "y", form[2]) if form[0] in ("name", "fn", "let") else None
        yield Wrap("let", "y", 1), ("let", "y", (GAP, form))
        for at in range(len(form[2])):
            yield Keep(at), form[2][at]
        for word in ("plus", "if", "call"):
            yield Put(word), with_gaps(word, None) if gap else None
        for other in (NUM, ONE_OF_EACH[9], ONE_OF_EACH[12]):
            yield Fill(other), other if gap else None


if __name__ == "__main__":
    unittest.main()
