"""Runs of trees without marks, held against the kinds told of these trees."""

import unittest

from gapscribe.errors import TooLong
from gapscribe.forms import GAP
from gapscribe.kinds import is_function
from gapscribe.looks import blanked, looks, marks
from gapscribe.places import form_at
from gapscribe.rows import clashes, is_finished
from gapscribe.runs import run
from gapscribe.scopes import binder, names_at
from tests.samples import (
    ALL_WORDS, NO, ODD, YES, busy_trees, call, fitting_trees, fn, grown_trees, let, name, num, plus, rec, when,
)


def kind_of_binding(tree, given, place, number):
    """The kind of the binding of that number of those at the place."""
    top = binder(tree, place, number)
    word = form_at(tree, top)[0]
    if word == "let":
        return given[top + (0,)]
    first = word == "rec" and (number == 0 or binder(tree, place, number - 1) != top)
    return given[top] if first else given[top][1]


class SoundTest(unittest.TestCase):
    def holds(self, thing, kind):
        """A thing is of a kind, a row of the kind given at its place; unfinished ones too, though no more is promised
        than for finished ones."""
        self.seen.add(thing[0] if thing[0] != "row" else self.rows[thing[1]][0])
        if thing[0] == "row":
            self.assertEqual(self.given[self.rows[thing[1]][1]], kind)
            self.assertTrue(is_function(kind) or not is_finished(thing, self.rows))
        else:
            self.assertEqual((thing[0],), kind)

    def check(self, tree):
        told = looks(tree)
        self.assertEqual([look for look in told if look[3]], [])
        self.given = {place: given for place, given, asked, mark in told}
        try:
            answer, self.rows, steps = run(tree)
        except TooLong:
            return
        self.assertEqual(clashes(self.rows), [])
        self.holds(answer, self.given[()])
        for word, place, operands, around in self.rows:
            self.assertNotIn(word, ("odd", "name"))
            for number, thing in enumerate(operands):
                self.holds(thing, self.given[place + (number,)])
            for number, (text, thing) in enumerate(around):
                self.assertEqual(text, names_at(tree, place)[number])
                self.holds(thing, kind_of_binding(tree, self.given, place, number))

    def check_all(self, trees):
        self.seen = set()
        for tree in trees:
            with self.subTest(tree=tree):
                self.check(tree)
        # Else too little would have been held against the kinds.
        self.assertEqual(self.seen, {"num", "truth", "gap", "plus", "minus", "less", "if", "call", "fn", "rec"})

    def test_trees_blanked(self):
        trees = busy_trees(41, 1500, 2, 40) + grown_trees(41, 1500, 40) + [ALL_WORDS]
        self.check_all([blanked(tree) for tree in trees])

    def test_trees_made_without_marks(self):
        self.check_all(fitting_trees(42, 1500, 4, 40))


class MarkedTest(unittest.TestCase):
    """What the runs of trees with marks may have, so that the tests above would see it."""

    def test_rows_that_clash(self):
        for tree, numbers in [
            (plus(YES, num(1)), [0]),
            (when(num(1), YES, NO), [0]),
            (call(num(1), num(2)), [0]),
            (call(fn("x", plus(name("x"), GAP)), YES), [2]),
            (let("f", rec("f", "x", plus(name("f"), name("x"))), call(name("f"), num(1))), [1]),
        ]:
            self.assertNotEqual(marks(tree), [])
            self.assertEqual(clashes(run(tree)[1]), numbers)
            self.assertEqual(clashes(run(blanked(tree))[1]), [])

    def test_rows_of_odd_and_name(self):
        for tree in (ODD, name("x")):
            self.assertEqual([made[0] for made in run(plus(GAP, tree))[1]], ["gap", tree[0], "plus"])
            self.assertEqual([made[0] for made in run(blanked(plus(GAP, tree)))[1]], ["gap", "gap", "plus"])


if __name__ == "__main__":
    unittest.main()
