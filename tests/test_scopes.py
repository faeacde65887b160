import unittest

from gapscribe.errors import NoPlace
from gapscribe.forms import GAP
from gapscribe.places import places
from gapscribe.scopes import binder, binding_at, names_at
from tests.samples import (
    ALL_WORDS, ALL_WORDS_PLACES, NAME, NUM, ODD, ONE_OF_EACH, YES, bush, chain, check_own_lists, fn, grown_trees, let,
    no_places, rec,
)

# Trees, and for each of their places the bindings there: names, and the places of the forms that bind them.
TREES = [
    (fn("x", GAP), {(): [], (0,): [("x", ())]}),
    (rec("f", "x", GAP), {(): [], (0,): [("f", ()), ("x", ())]}),
    (rec("x", "f", GAP), {(): [], (0,): [("x", ()), ("f", ())]}),
    (rec("x", "x", GAP), {(): [], (0,): [("x", ()), ("x", ())]}),
    (let("x", GAP, GAP), {(): [], (0,): [], (1,): [("x", ())]}),
    (let("x", NAME, NAME), {(): [], (0,): [], (1,): [("x", ())]}),
    (fn("x", fn("x", NAME)), {(): [], (0,): [("x", ())], (0, 0): [("x", ()), ("x", (0,))]}),
    (fn("b", fn("a", NUM)), {(): [], (0,): [("b", ())], (0, 0): [("b", ()), ("a", (0,))]}),
    (
        let("x", let("y", NUM, NAME), let("z", NAME, YES)),
        {
            (): [], (0,): [], (0, 0): [], (0, 1): [("y", (0,))],
            (1,): [("x", ())], (1, 0): [("x", ())], (1, 1): [("x", ()), ("z", (1,))],
        },
    ),
    (
        let("x", let("x", fn("x", GAP), GAP), let("x", GAP, GAP)),
        {
            (): [], (0,): [], (0, 0): [], (0, 0, 0): [("x", (0, 0))], (0, 1): [("x", (0,))],
            (1,): [("x", ())], (1, 0): [("x", ())], (1, 1): [("x", ()), ("x", (1,))],
        },
    ),
    (
        rec("f", "x", rec("g", "f", fn("x", let("g", rec("y", "y", NAME), ODD)))),
        {
            (): [],
            (0,): [("f", ()), ("x", ())],
            (0, 0): [("f", ()), ("x", ()), ("g", (0,)), ("f", (0,))],
            (0, 0, 0): [("f", ()), ("x", ()), ("g", (0,)), ("f", (0,)), ("x", (0, 0))],
            (0, 0, 0, 0): [("f", ()), ("x", ()), ("g", (0,)), ("f", (0,)), ("x", (0, 0))],
            (0, 0, 0, 0, 0): [
                ("f", ()), ("x", ()), ("g", (0,)), ("f", (0,)), ("x", (0, 0)),
                ("y", (0, 0, 0, 0)), ("y", (0, 0, 0, 0)),
            ],
            (0, 0, 0, 1): [("f", ()), ("x", ()), ("g", (0,)), ("f", (0,)), ("x", (0, 0)), ("g", (0, 0, 0))],
        },
    ),
    (
        ("if", None, (fn("x", NAME), ("plus", None, (NAME, let("y", GAP, ("call", None, (NAME, GAP))))), ODD)),
        {
            (): [], (0,): [], (0, 0): [("x", (0,))], (1,): [], (1, 0): [], (1, 1): [], (1, 1, 0): [],
            (1, 1, 1): [("y", (1, 1))], (1, 1, 1, 0): [("y", (1, 1))], (1, 1, 1, 1): [("y", (1, 1))], (2,): [],
        },
    ),
]
NO_NAMES = ["zz", "no_such", "X", "", "let", "x ", "ff"]


def bindings_below(form, place, ahead):
    """All places with their bindings, told from the top down: another way than the program's own."""
    told = [(place, ahead)]
    for number, part in enumerate(form[2]):
        more = []
        if form[0] == "rec":
            more = [(form[1][0], place), (form[1][1], place)]
        elif form[0] == "fn" or (form[0] == "let" and number):
            more = [(form[1], place)]
        told += bindings_below(part, place + (number,), ahead + more)
    return told


class ScopesTest(unittest.TestCase):
    def holds(self, tree, place, bindings):
        names = [name for name, where in bindings]
        told = names_at(tree, place)
        self.assertEqual(told, names)
        self.assertIs(type(told), list)
        for name in ["x", "y", "f", "g"] + names + NO_NAMES:
            numbers = [number for number, bound in enumerate(names) if bound == name]
            number = binding_at(tree, place, name)
            if numbers:
                self.assertEqual(number, numbers[-1])
                self.assertIs(type(number), int)
            else:
                self.assertIsNone(number)
        for number, binding in enumerate(bindings):
            where = binder(tree, place, number)
            self.assertEqual(where, binding[1])
            self.assertIs(type(where), tuple)

    def test_by_hand(self):
        for tree, told in TREES:
            self.assertEqual(places(tree), sorted(told))
            for place in told:
                with self.subTest(tree=tree, place=place):
                    self.holds(tree, place, told[place])

    def test_a_tree_of_all_words(self):
        for place in ALL_WORDS_PLACES:
            with self.subTest(place=place):
                bindings = []
                if place[:2] == (0, 0):
                    bindings = [("g", (0,)), ("n", (0,))]
                elif place[:1] == (1,):
                    bindings = [("f", ())] + ([("y", (1, 0, 0))] if place == (1, 0, 0, 0) else [])
                self.holds(ALL_WORDS, place, bindings)

    def test_words_that_bind_nothing(self):
        for form in ONE_OF_EACH:
            if form[0] not in ("fn", "rec", "let"):
                for place in places(form):
                    self.holds(form, place, [])

    def test_trees_by_chance(self):
        for tree in grown_trees(7, 150, 60):
            for place, bindings in bindings_below(tree, (), []):
                self.holds(tree, place, bindings)

    def test_last_of_alike_names(self):
        tree = rec("f", "f", fn("g", fn("f", fn("g", NAME))))
        self.assertEqual(names_at(tree, (0, 0, 0, 0)), ["f", "f", "g", "f", "g"])
        self.assertEqual(binding_at(tree, (0, 0, 0, 0), "f"), 3)
        self.assertEqual(binding_at(tree, (0, 0, 0, 0), "g"), 4)
        self.assertEqual(binding_at(tree, (0, 0, 0), "g"), 2)
        self.assertEqual(binding_at(tree, (0, 0), "f"), 1)
        self.assertEqual(binding_at(tree, (0,), "f"), 1)
        self.assertIsNone(binding_at(tree, (), "f"))
        self.assertEqual([binder(tree, (0, 0), number) for number in range(3)], [(), (), (0,)])

    def test_nested_deep(self):
        for many in (69, 90):
            tree = chain(many)
            for place, bindings in bindings_below(tree, (), []):
                self.holds(tree, place, bindings)
            row = ["a", "b", "c"] * (many // 3)
            deep = GAP
            for name in reversed(row):
                deep = let(name, YES, deep)
            bottom = (1,) * len(row)
            self.assertEqual(names_at(deep, bottom), row)
            self.assertEqual(names_at(deep, bottom[:-1] + (0,)), row[:-1])
            self.assertEqual([binder(deep, bottom, number) for number in range(len(row))],
                             [(1,) * number for number in range(len(row))])

    def test_nothing_bound_in_a_broad_tree(self):
        tree = bush(249)
        for place in places(tree):
            self.assertEqual(names_at(tree, place), [])

    def test_lists_are_the_askers_own(self):
        for tree, told in TREES:
            for place in told:
                names = [name for name, where in told[place]]
                check_own_lists(self, lambda: names_at(tree, place), names)
                self.holds(tree, place, told[place])

    def test_nothing_hangs_on_what_was_asked_ahead(self):
        for turn in range(2):
            for tree, told in TREES[::-1]:
                for place in told:
                    self.holds(tree, place, told[place])


class NoPlaceTest(unittest.TestCase):
    def refused(self, tree, place):
        asked = [
            lambda: names_at(tree, place),
            lambda: binding_at(tree, place, "x"),
            lambda: binding_at(tree, place, "zz"),
            lambda: binder(tree, place, 0),
            lambda: binder(tree, place, 1),
            lambda: binder(tree, place, -1),
            lambda: binder(tree, place, 10 ** 18),
        ]
        for ask in asked:
            with self.assertRaises(NoPlace) as caught:
                ask()
            self.assertEqual(caught.exception.place, place)
            self.assertIs(type(caught.exception.place), tuple)

    def test_wrong_numbers_at_each_place(self):
        for tree in ONE_OF_EACH + [ALL_WORDS, chain(9)] + [pair[0] for pair in TREES]:
            for place in no_places(tree):
                self.refused(tree, place)

    def test_by_hand(self):
        tree = let("x", NUM, fn("y", rec("f", "x", GAP)))
        for place in ((2,), (-1,), (0, 0), (1, 1), (1, -1), (-1, 0, 0), (2, 0, 0), (1, 0, 1), (1, 0, -1),
                      (1, -1, 0), (1, 1, 0), (1, 0, 0, 0), (1, 0, 0, -1), (10 ** 18,), (1, 10 ** 18, 0)):
            self.refused(tree, place)

    def test_deep(self):
        tree = chain(69)
        bottom = max(places(tree), key=len)
        for place in (bottom + (0,), bottom[:-1] + (2,), (2,) + bottom[1:], bottom[:30] + (-1,) + bottom[31:]):
            self.refused(tree, place)

    def test_a_refusal_hinders_nothing(self):
        self.refused(ALL_WORDS, (7,))
        self.assertEqual(names_at(ALL_WORDS, (1, 0, 0, 0)), ["f", "y"])


if __name__ == "__main__":
    unittest.main()
