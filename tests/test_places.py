import unittest

from gapscribe.errors import NoPlace
from gapscribe.forms import GAP, is_form
from gapscribe.places import form_at, gaps, places, with_at
from tests.samples import (
    ALL_WORDS, ALL_WORDS_GAPS, ALL_WORDS_PLACES, NAME, NUM, ODD, ONE_OF_EACH, YES, bush, chain, check_own_lists,
    no_places,
)

TREES = ONE_OF_EACH + [ALL_WORDS, chain(69), bush(249)]


class PlacesTest(unittest.TestCase):
    def test_in_reading_order(self):
        self.assertEqual(places(ALL_WORDS), ALL_WORDS_PLACES)
        self.assertEqual(gaps(ALL_WORDS), ALL_WORDS_GAPS)

    def test_each_word(self):
        for form in ONE_OF_EACH:
            with self.subTest(form=form):
                self.assertEqual(places(form), [()] + [(number,) for number in range(len(form[2]))])
                found = [(number,) for number, part in enumerate(form[2]) if part == GAP]
                self.assertEqual(gaps(form), [()] if form == GAP else found)

    def test_parts_that_have_parts(self):
        tree = ("if", None, (("plus", None, (GAP, NUM)), ("fn", "x", (GAP,)), ("less", None, (NUM, GAP))))
        self.assertEqual(places(tree), [(), (0,), (0, 0), (0, 1), (1,), (1, 0), (2,), (2, 0), (2, 1)])
        self.assertEqual(gaps(tree), [(0, 0), (1, 0), (2, 1)])

    def test_forms_without_parts(self):
        for form in (GAP, ODD, NUM, YES, NAME):
            with self.subTest(form=form):
                self.assertEqual(places(form), [()])
                self.assertEqual(gaps(form), [()] if form == GAP else [])

    def test_numbers_and_places_are_plain(self):
        for place in places(ALL_WORDS):
            self.assertIs(type(place), tuple)
            self.assertEqual([number for number in place if type(number) is not int], [])
        self.assertIs(type(places(GAP)), list)
        self.assertIs(type(gaps(NUM)), list)

    def test_nested_deep(self):
        for many in (69, 90, 2000):
            tree = chain(many)
            told = places(tree)
            self.assertEqual(max(len(place) for place in told), many)
            self.assertEqual(len(told), many + (many + 1) // 2 + 1)
            self.assertEqual(told, sorted(told))
            self.assertEqual(gaps(tree), told[-1:])

    def test_many_forms(self):
        tree = ("fn", "x", (bush(249),))
        told = places(tree)
        self.assertEqual(len(told), 250)
        self.assertEqual(told, sorted(told))
        self.assertEqual(len(set(told)), 250)
        self.assertEqual(gaps(tree), [place for place in told if form_at(tree, place) == GAP])
        self.assertEqual(len(gaps(tree)), 125)

    def test_lists_are_the_askers_own(self):
        for asked, right in ((places, ALL_WORDS_PLACES), (gaps, ALL_WORDS_GAPS)):
            check_own_lists(self, lambda: asked(ALL_WORDS), right)

    def test_empty_lists_are_the_askers_own(self):
        gaps(NUM).append(())
        self.assertEqual(gaps(NUM), [])

    def test_nothing_hangs_on_what_was_asked_ahead(self):
        ahead = [(places(tree), gaps(tree)) for tree in TREES]
        later = [(places(tree), gaps(tree)) for tree in reversed(TREES)]
        self.assertEqual(ahead, later[::-1])


class FormAtTest(unittest.TestCase):
    def test_each_place_by_hand(self):
        self.assertEqual(form_at(ALL_WORDS, ()), ALL_WORDS)
        self.assertEqual(form_at(ALL_WORDS, (0, 0, 0)), ("less", None, (("name", "n", ()), NUM)))
        self.assertEqual(form_at(ALL_WORDS, (0, 0, 1)), GAP)
        self.assertEqual(form_at(ALL_WORDS, (0, 0, 2, 1, 1)), ("num", 1, ()))
        self.assertEqual(form_at(ALL_WORDS, (1, 0, 1)), YES)
        self.assertEqual(form_at(ALL_WORDS, (1, 1)), ODD)

    def test_each_place(self):
        for tree in TREES:
            for place in places(tree):
                form = tree
                for number in place:
                    form = form[2][number]
                self.assertEqual(form_at(tree, place), form)


class WithAtTest(unittest.TestCase):
    def test_each_place_by_hand(self):
        tree = ("if", None, (YES, ("plus", None, (NUM, GAP)), NAME))
        self.assertEqual(with_at(tree, (), ODD), ODD)
        self.assertEqual(with_at(tree, (0,), ODD), ("if", None, (ODD, ("plus", None, (NUM, GAP)), NAME)))
        self.assertEqual(with_at(tree, (1,), ODD), ("if", None, (YES, ODD, NAME)))
        self.assertEqual(with_at(tree, (2,), ODD), ("if", None, (YES, ("plus", None, (NUM, GAP)), ODD)))
        self.assertEqual(with_at(tree, (1, 0), ODD), ("if", None, (YES, ("plus", None, (ODD, GAP)), NAME)))
        self.assertEqual(with_at(tree, (1, 1), ODD), ("if", None, (YES, ("plus", None, (NUM, ODD)), NAME)))

    def test_notes_above_stay(self):
        tree = ("let", "y", (("rec", ("f", "x"), (("fn", "z", (GAP,)),)), NUM))
        self.assertEqual(
            with_at(tree, (0, 0, 0), YES),
            ("let", "y", (("rec", ("f", "x"), (("fn", "z", (YES,)),)), NUM)),
        )

    def test_all_else_is_left(self):
        other = ("less", None, (NAME, ("fn", "q", (GAP,))))
        for tree in TREES:
            for place in places(tree):
                shown = repr(tree)
                made = with_at(tree, place, other)
                self.assertEqual(form_at(made, place), other)
                self.assertIs(is_form(made), True)
                self.assertEqual(with_at(made, place, form_at(tree, place)), tree)
                self.assertEqual(with_at(tree, place, form_at(tree, place)), tree)
                self.assertEqual(repr(tree), shown)

    def test_places_elsewhere_hold_what_they_held(self):
        for place in ALL_WORDS_PLACES:
            made = with_at(ALL_WORDS, place, ("odd", "then", ()))
            for beside in ALL_WORDS_PLACES:
                beneath = beside[:len(place)] == place
                above = place[:len(beside)] == beside
                if not beneath and not above:
                    self.assertEqual(form_at(made, beside), form_at(ALL_WORDS, beside))
                elif above and not beneath:
                    self.assertEqual(form_at(made, beside)[:2], form_at(ALL_WORDS, beside)[:2])


class NoPlaceTest(unittest.TestCase):
    def refused(self, tree, place):
        for asked in (lambda: form_at(tree, place), lambda: with_at(tree, place, NUM)):
            with self.assertRaises(NoPlace) as caught:
                asked()
            self.assertEqual(caught.exception.place, place)
            self.assertIs(type(caught.exception.place), tuple)

    def test_wrong_numbers_at_each_place(self):
        for tree in ONE_OF_EACH + [ALL_WORDS, chain(9), bush(15)]:
            for place in no_places(tree):
                self.refused(tree, place)

    def test_by_hand(self):
        tree = ("plus", None, (("fn", "x", (NUM,)), GAP))
        for place in ((2,), (-1,), (-2,), (0, 1), (0, -1), (-1, 0), (2, 0, 0), (0, -1, 0), (0, 0, 0), (1, 0), (1, -1)):
            self.refused(tree, place)

    def test_behind_forms_without_parts(self):
        for form in (GAP, ODD, NUM, YES, NAME):
            for place in ((0,), (1,), (-1,), (0, 0), (0,) * 70):
                self.refused(form, place)

    def test_deep_in_great_trees(self):
        deep, broad = chain(69), bush(249)
        bottom = gaps(deep)[0]
        for place in (bottom + (0,), bottom[:-1] + (2,), bottom[:30] + (-1,) + bottom[31:], (5,) + bottom[1:]):
            self.refused(deep, place)
        for place in (gaps(broad)[-1] + (0,), (2,) + gaps(broad)[-1][1:], gaps(broad)[0][:-1] + (-2,)):
            self.refused(broad, place)

    def test_a_truth_is_no_number(self):
        self.refused(("plus", None, (NUM, NUM)), (True,))
        self.refused(("plus", None, (NUM, NUM)), (False,))

    def test_a_refusal_hinders_nothing(self):
        self.refused(ALL_WORDS, (7,))
        self.assertEqual(places(ALL_WORDS), ALL_WORDS_PLACES)
        self.assertEqual(form_at(ALL_WORDS, (1, 1)), ODD)


if __name__ == "__main__":
    unittest.main()
