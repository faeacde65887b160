import unittest

from gapscribe.errors import NoPlace
from gapscribe.forms import GAP
from gapscribe.places import form_at, places
from gapscribe.scopes import names_at
from gapscribe.uses import uses_at
from tests.samples import (
    ALL_WORDS, ODD, ONE_OF_EACH, YES, busy_trees, call, check_own_lists, fn, grown_trees, let, name, no_places, num,
    plus, rec, when,
)

F, X, Y = [name(text) for text in "fxy"]

# Trees, and for each of their places that are of a name or a gap the uses there.
TREES = [
    (GAP, {(): []}),
    (X, {(): [("x", None)]}),
    (fn("x", X), {(0,): [("x", 0)]}),
    (fn("x", Y), {(0,): [("y", None)]}),
    (fn("x", GAP), {(0,): [("x", 0)]}),
    (fn("x", fn("x", X)), {(0, 0): [("x", 1)]}),
    (fn("x", fn("y", X)), {(0, 0): [("x", 0)]}),
    (fn("x", fn("y", GAP)), {(0, 0): [("x", 0), ("y", 1)]}),
    (fn("y", fn("x", GAP)), {(0, 0): [("y", 0), ("x", 1)]}),
    (fn("x", fn("x", GAP)), {(0, 0): [("x", 1)]}),
    (fn("x", fn("y", fn("x", GAP))), {(0, 0, 0): [("y", 1), ("x", 2)]}),
    (fn("x", fn("y", fn("y", GAP))), {(0, 0, 0): [("x", 0), ("y", 2)]}),
    (fn("x", fn("x", fn("x", call(X, GAP)))), {(0, 0, 0, 0): [("x", 2)], (0, 0, 0, 1): [("x", 2)]}),
    (rec("f", "x", call(F, GAP)), {(0, 0): [("f", 0)], (0, 1): [("f", 0), ("x", 1)]}),
    (rec("x", "x", call(X, GAP)), {(0, 0): [("x", 1)], (0, 1): [("x", 1)]}),
    (fn("f", rec("f", "x", call(F, GAP))), {(0, 0, 0): [("f", 1)], (0, 0, 1): [("f", 1), ("x", 2)]}),
    (let("x", X, X), {(0,): [("x", None)], (1,): [("x", 0)]}),
    (let("x", GAP, GAP), {(0,): [], (1,): [("x", 0)]}),
    (
        let("x", num(1), let("x", plus(X, GAP), plus(X, GAP))),
        {(1, 0, 0): [("x", 0)], (1, 0, 1): [("x", 0)], (1, 1, 0): [("x", 1)], (1, 1, 1): [("x", 1)]},
    ),
    (
        plus(fn("x", GAP), plus(X, GAP)),
        {(0, 0): [("x", 0)], (1, 0): [("x", None)], (1, 1): []},
    ),
    (
        let("f", fn("x", GAP), when(F, X, GAP)),
        {(0, 0): [("x", 0)], (1, 0): [("f", 0)], (1, 1): [("x", None)], (1, 2): [("f", 0)]},
    ),
]


def uses_below(form, place, names):
    """All places with their uses, told from the top down by what is in sight: another way than the program's own."""
    sight = {text: number for number, text in enumerate(names)}
    told = {place: []}
    if form[0] == "name":
        told[place] = [(form[1], sight.get(form[1]))]
    elif form[0] == "gap":
        told[place] = sorted(sight.items(), key=lambda pair: pair[1])
    for number, part in enumerate(form[2]):
        bound = []
        if form[0] == "rec":
            bound = list(form[1])
        elif form[0] == "fn" or (form[0] == "let" and number):
            bound = [form[1]]
        told.update(uses_below(part, place + (number,), names + bound))
    return told


class UsesTest(unittest.TestCase):
    def test_by_hand(self):
        for tree, uses in TREES:
            for place in places(tree):
                with self.subTest(tree=tree, place=place):
                    told = uses_at(tree, place)
                    self.assertEqual(told, uses.get(place, []))
                    self.assertEqual(place in uses, form_at(tree, place)[0] in ("name", "gap"))
                    self.assertIs(type(told), list)

    def test_other_words_are_no_uses(self):
        for form in ONE_OF_EACH:
            tree = let("x", num(1), fn("y", form))
            if form[0] not in ("name", "gap"):
                self.assertEqual(uses_at(tree, (1, 0)), [])
        self.assertEqual(uses_at(fn("x", ODD), (0,)), [])
        self.assertEqual(uses_at(fn("x", YES), (0,)), [])

    def test_trees_by_chance(self):
        for tree in grown_trees(61, 150, 60) + busy_trees(61, 150, 2, 60) + [ALL_WORDS]:
            for place, uses in uses_below(tree, (), []).items():
                self.assertEqual(uses_at(tree, place), uses)

    def test_a_gap_uses_each_name_there_once(self):
        for tree in grown_trees(62, 100, 60):
            for place in places(tree):
                if form_at(tree, place) == GAP:
                    self.assertEqual(sorted(set(names_at(tree, place))), sorted(dict(uses_at(tree, place))))

    def test_no_place(self):
        for wrong in no_places(ALL_WORDS):
            with self.assertRaises(NoPlace) as caught:
                uses_at(ALL_WORDS, wrong)
            self.assertEqual(caught.exception.place, wrong)

    def test_the_list_is_the_askers_own(self):
        tree = fn("x", fn("y", plus(GAP, X)))
        check_own_lists(self, lambda: uses_at(tree, (0, 0, 0)), [("x", 0), ("y", 1)])
        check_own_lists(self, lambda: uses_at(tree, (0, 0, 1)), [("x", 0)])


if __name__ == "__main__":
    unittest.main()
