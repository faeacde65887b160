import itertools
import random
import unittest

from gapscribe.deeds import Change, Cut, Deed, Fill, Keep, Note, Put, Wrap
from gapscribe.errors import NoDeed, NoPlace
from gapscribe.forms import GAP
from gapscribe.places import form_at, gaps, places, with_at
from gapscribe.ways import behind, row_to, way
from tests.samples import (
    ALL_WORDS, MANY_PARTS, NAME, NUM, ODD, ONE_OF_EACH, YES, bush, chain, grown_trees, no_places, size,
)

ONE = ("num", 1, ())
TWO = ("num", 2, ())


class BehindTest(unittest.TestCase):
    def test_no_deeds(self):
        for tree in ONE_OF_EACH + [ALL_WORDS, chain(69), bush(249)]:
            self.assertEqual(behind(tree, []), tree)

    def test_one_deed(self):
        tree = ("if", None, (YES, ("plus", None, (NUM, GAP)), NAME))
        told = [
            (((), Cut()), GAP),
            (((), Deed()), tree),
            (((), Keep(1)), ("plus", None, (NUM, GAP))),
            (((1,), Keep(0)), ("if", None, (YES, NUM, NAME))),
            (((1, 1), Put("fn", "x")), ("if", None, (YES, ("plus", None, (NUM, ("fn", "x", (GAP,)))), NAME))),
            (((1, 1), Fill(ODD)), ("if", None, (YES, ("plus", None, (NUM, ODD)), NAME))),
            (((2,), Note("y")), ("if", None, (YES, ("plus", None, (NUM, GAP)), ("name", "y", ())))),
            (((0,), Wrap("let", "z", 1)), ("if", None, (("let", "z", (GAP, YES)), ("plus", None, (NUM, GAP)), NAME))),
            (((1,), Change(ODD)), ("if", None, (YES, ODD, NAME))),
        ]
        for pair, outcome in told:
            with self.subTest(place=pair[0], kind=type(pair[1]).__name__):
                self.assertEqual(behind(tree, [pair]), outcome)

    def test_each_to_the_form_that_then_stands_there(self):
        row = [
            ((), Put("let", "x")),
            ((0,), Put("num", 7)),
            ((1,), Put("plus")),
            ((1, 1), Put("name", "x")),
            ((1, 0), Fill(("fn", "y", (GAP,)))),
            ((1, 0, 0), Put("truth", True)),
            ((1,), Wrap("if", None, 2)),
            ((1, 2, 0), Keep(0)),
            ((), Note("z")),
            ((1, 2, 1), Cut()),
            ((1, 2, 1), Change(ODD)),
        ]
        outcomes = [
            ("let", "x", (GAP, GAP)),
            ("let", "x", (NUM, GAP)),
            ("let", "x", (NUM, ("plus", None, (GAP, GAP)))),
            ("let", "x", (NUM, ("plus", None, (GAP, NAME)))),
            ("let", "x", (NUM, ("plus", None, (("fn", "y", (GAP,)), NAME)))),
            ("let", "x", (NUM, ("plus", None, (("fn", "y", (YES,)), NAME)))),
            ("let", "x", (NUM, ("if", None, (GAP, GAP, ("plus", None, (("fn", "y", (YES,)), NAME)))))),
            ("let", "x", (NUM, ("if", None, (GAP, GAP, ("plus", None, (YES, NAME)))))),
            ("let", "z", (NUM, ("if", None, (GAP, GAP, ("plus", None, (YES, NAME)))))),
            ("let", "z", (NUM, ("if", None, (GAP, GAP, ("plus", None, (YES, GAP)))))),
            ("let", "z", (NUM, ("if", None, (GAP, GAP, ("plus", None, (YES, ODD)))))),
        ]
        for many in range(len(row)):
            self.assertEqual(behind(GAP, row[:many + 1]), outcomes[many])
            self.assertEqual(behind(outcomes[many], row[many + 1:]), outcomes[-1])

    def test_the_order_counts(self):
        self.assertEqual(behind(NUM, [((), Cut()), ((), Put("fn", "x"))]), ("fn", "x", (GAP,)))
        self.assertEqual(behind(NUM, [((), Change(YES)), ((), Change(ODD))]), ODD)
        self.assertEqual(behind(NUM, [((), Change(ODD)), ((), Change(YES))]), YES)
        self.assertEqual(
            behind(GAP, [((), Wrap("fn", "x")), ((), Wrap("fn", "y"))]), ("fn", "y", (("fn", "x", (GAP,)),))
        )

    def test_500_deeds_at_one_place(self):
        row = [((), Put("num", number)) if k else ((), Cut()) for number in range(250) for k in (0, 1)]
        self.assertEqual(behind(NUM, row), ("num", 249, ()))
        self.assertEqual(behind(GAP, row[1:]), ("num", 249, ()))
        self.assertEqual(behind(NUM, row[:-1]), GAP)

    def test_500_deeds_at_many_places(self):
        tree = bush(249)
        row = [(place, Fill(ONE)) for place in gaps(tree)]
        row += [(place, Note(2)) for place in gaps(tree)]
        row += [(place, Wrap("fn", "x")) for place in gaps(tree)]
        row += [(place, Keep()) for place in gaps(tree)]
        self.assertEqual(len(row), 500)
        made = tree
        for place in gaps(tree):
            made = with_at(made, place, TWO)
        self.assertEqual(behind(tree, row), made)
        self.assertEqual(behind(made, [(place, Cut()) for place in gaps(tree)]), tree)

    def test_500_deeds_nest_deep(self):
        made = behind(NUM, [((), Wrap("let", "x", 1))] * 500)
        for level in range(500):
            self.assertEqual(made[:2], ("let", "x"))
            self.assertEqual(made[2][0], GAP)
            made = made[2][1]
        self.assertEqual(made, NUM)
        down = [((0,) * level, Put("fn", "x")) for level in range(499)] + [((), Cut())]
        self.assertEqual(behind(GAP, down), GAP)
        there_and_back = [((), Wrap("plus"))] * 250 + [((), Keep())] * 250
        self.assertEqual(behind(ALL_WORDS, there_and_back), ALL_WORDS)

    def test_row_and_tree_stay(self):
        deeds = [Cut(), Put("if"), Put("num", 1)]
        row = [((1,), deeds[0]), ((1,), deeds[1]), ((1, 2), deeds[2])]
        tree, shown, before = ALL_WORDS, repr(ALL_WORDS), list(row)
        first = behind(tree, row)
        self.assertEqual(row, before)
        self.assertEqual(repr(tree), shown)
        self.assertEqual(behind(tree, row), first)
        row.append(((), Cut()))
        self.assertEqual(first, with_at(ALL_WORDS, (1,), ("if", None, (GAP, GAP, ONE))))
        self.assertEqual(behind(tree, row), GAP)

    def test_a_refused_row_stays(self):
        row = [((), Cut()), ((), Cut()), ((5,), Cut())]
        before = list(row)
        with self.assertRaises(NoDeed):
            behind(NUM, row)
        self.assertEqual(row, before)


class BehindRefusedTest(unittest.TestCase):
    def no_place(self, tree, row, place):
        with self.assertRaises(NoPlace) as caught:
            behind(tree, row)
        self.assertEqual(caught.exception.place, place)
        self.assertIs(type(caught.exception.place), tuple)

    def no_deed(self, tree, row):
        with self.assertRaises(NoDeed):
            behind(tree, row)

    def test_places_that_the_tree_has_not(self):
        for tree in ONE_OF_EACH + [ALL_WORDS]:
            for place in no_places(tree):
                for deed in (Deed(), Cut(), Put("fn", "x"), Change(NUM), Keep(-1)):
                    self.no_place(tree, [(place, deed)], place)
                    self.no_place(tree, [((), Deed()), (place, deed), ((), Keep(-1))], place)

    def test_no_place_where_the_deed_would_not_fit(self):
        self.no_place(GAP, [((0,), Cut())], (0,))
        self.no_place(NUM, [((0,), Keep(7))], (0,))
        self.no_place(("plus", None, (GAP, GAP)), [((-1,), Cut())], (-1,))
        self.no_place(("plus", None, (GAP, GAP)), [((2,), Note("x"))], (2,))

    def test_deeds_that_do_not_fit(self):
        tree = ("plus", None, (NUM, GAP))
        for pair in (((), Put("num", 1)), ((0,), Fill(NUM)), ((1,), Cut()), ((0,), Keep()), ((), Keep(2)),
                     ((), Keep(-1)), ((), Note("x")), ((0,), Note(True)), ((1,), Note(1))):
            with self.subTest(place=pair[0], kind=type(pair[1]).__name__):
                self.no_deed(tree, [pair])
                self.no_deed(tree, [((0,), Deed()), pair, ((9,), Cut())])

    def test_the_first_that_is_refused(self):
        tree = ("plus", None, (NUM, GAP))
        self.no_place(tree, [((2,), Cut()), ((1,), Cut())], (2,))
        self.no_deed(tree, [((1,), Cut()), ((2,), Cut())])
        self.no_place(tree, [((3,), Cut()), ((2,), Cut())], (3,))
        self.no_place(tree, [((0,), Cut()), ((2,), Cut()), ((0,), Cut())], (2,))
        self.no_deed(tree, [((0,), Cut()), ((0,), Cut()), ((2,), Cut())])

    def test_places_that_are_gone_or_not_yet_there(self):
        tree = ("plus", None, (("fn", "x", (NUM,)), GAP))
        self.no_place(tree, [((0,), Cut()), ((0, 0), Cut())], (0, 0))
        self.no_place(tree, [((1, 0), Put("num", 1)), ((1,), Put("fn", "x"))], (1, 0))
        self.no_place(tree, [((), Keep(0)), ((1,), Put("num", 1))], (1,))

    def test_refused_at_the_end_of_500(self):
        row = [((), Wrap("fn", "x")), ((), Keep())] * 249 + [((), Deed())]
        self.assertEqual(len(row), 499)
        self.no_place(NUM, row + [((0, 1), Cut())], (0, 1))
        self.no_deed(NUM, row + [((), Put("num", 1))])
        self.assertEqual(behind(NUM, row + [((), Cut())]), GAP)


SMALL_PLACES = [place for many in range(4) for place in itertools.product((0, 1), repeat=many)]
GREAT = 10 ** 18
PLACES = SMALL_PLACES + [
    (2,), (2, 2), (0, 2, 0), (GREAT,), (GREAT, 0), (0, GREAT), (GREAT, GREAT), (GREAT + 1,), (0, GREAT, 0, 1),
    (0, 1) * 35, (0, 1) * 34 + (0, 2), (0, 1) * 34 + (0,), (0, 1) * 17 + (5,) + (0, 1) * 17, (1,) + (0, 1) * 34,
    (0, 1) * 300, tuple(range(70)), tuple(range(69)), tuple(range(1, 70)), (70,) * 70, (3, 10 ** 30),
]


def gone(place, moves):
    now = list(place)
    for move in moves:
        if move == "up":
            now.pop()
        else:
            now.append(move)
    return tuple(now)


def distances(start, deep):
    """How many moves each place of numbers 0 and 1 is away, found by going to all neighbours."""
    found, edge = {start: 0}, [start]
    while edge:
        further = []
        for place in edge:
            around = [place[:-1]] if place else []
            around += [place + (number,) for number in (0, 1)] if len(place) < deep else []
            for other in around:
                if other not in found:
                    found[other] = found[place] + 1
                    further.append(other)
        edge = further
    return found


class WayTest(unittest.TestCase):
    def test_by_hand(self):
        self.assertEqual(way((), ()), [])
        self.assertEqual(way((0, 1), (0, 1)), [])
        self.assertEqual(way((), (2, 0)), [2, 0])
        self.assertEqual(way((2, 0), ()), ["up", "up"])
        self.assertEqual(way((0,), (1,)), ["up", 1])
        self.assertEqual(way((0, 1, 2), (0, 1, 3)), ["up", 3])
        self.assertEqual(way((0, 1, 2), (0, 2, 2)), ["up", "up", 2, 2])
        self.assertEqual(way((0, 1), (0, 1, 2, 3)), [2, 3])
        self.assertEqual(way((0, 1, 2, 3), (0, 1)), ["up", "up"])
        self.assertEqual(way((0, 1, 1), (1, 1, 1)), ["up", "up", "up", 1, 1, 1])
        self.assertEqual(way((GREAT,), (GREAT + 1,)), ["up", GREAT + 1])

    def test_from_each_to_each(self):
        for place in PLACES:
            for other in PLACES:
                moves = way(place, other)
                self.assertIs(type(moves), list)
                self.assertEqual(gone(place, moves), other)
                shared = 0
                while place[:shared + 1] == other[:shared + 1] and shared < min(len(place), len(other)):
                    shared += 1
                self.assertEqual(len(moves), len(place) + len(other) - 2 * shared)
                self.assertEqual([move for move in moves if move != "up" and type(move) is not int], [])

    def test_as_short_as_any(self):
        for place in SMALL_PLACES:
            found = distances(place, 4)
            for other in SMALL_PLACES:
                self.assertEqual(len(way(place, other)), found[other])

    def test_lists_are_the_askers_own(self):
        for place, other in (((0, 1), (0, 2)), ((), ()), ((1,), (1,)), ((0,), ()), ((), (0,))):
            first, second = way(place, other), way(place, other)
            right = list(first)
            first.append("up")
            first[0] = 9
            self.assertEqual(second, right)
            second.clear()
            self.assertEqual(way(place, other), right)


def trees_of(tops, many):
    """All trees of so many forms whose words and notes are among these; the gap beside them."""
    if many < 1:
        return []
    told = [GAP] if many == 1 else []
    for word, note in tops:
        told += [(word, note, parts) for parts in parts_of(tops, MANY_PARTS[word], many - 1)]
    return told


def parts_of(tops, number, many):
    if number == 0:
        return [()] if many == 0 else []
    told = []
    for first in range(1, many - number + 2):
        for part in trees_of(tops, first):
            told += [(part,) + rest for rest in parts_of(tops, number - 1, many - first)]
    return told


def one_deed_on(tree, tops):
    """All trees that one Put or one Cut makes of the tree."""
    for place in places(tree):
        if form_at(tree, place) == GAP:
            for word, note in tops:
                yield with_at(tree, place, (word, note, (GAP,) * MANY_PARTS[word]))
        else:
            yield with_at(tree, place, GAP)


def fewest(start, steps):
    """How few deeds lead from the tree to each other one, found by a search over all rows."""
    found, edge = {start: 0}, [start]
    while edge:
        further = []
        for tree in edge:
            for other in steps[tree]:
                if other not in found:
                    found[other] = found[tree] + 1
                    further.append(other)
        edge = further
    return found


def many_filled(tree):
    return size(tree) - len(gaps(tree))


def few(tree, other):
    """How few deeds lead from tree to tree, told by another way than the program's own."""
    if tree == other:
        return 0
    anew = many_filled(other) + (tree != GAP)
    if tree == GAP or tree[:2] != other[:2]:
        return anew
    return min(anew, sum(few(part, beside) for part, beside in zip(tree[2], other[2])))


class RowToTest(unittest.TestCase):
    def leads(self, tree, other, many):
        row = row_to(tree, other)
        self.assertIs(type(row), list)
        for pair in row:
            self.assertIs(type(pair), tuple)
            self.assertEqual(len(pair), 2)
            self.assertIs(type(pair[0]), tuple)
            self.assertIn(type(pair[1]), (Put, Cut))
        self.assertEqual(behind(tree, row), other)
        self.assertEqual(len(row), many)
        self.assertEqual(row == [], tree == other)

    def test_alike(self):
        for tree in ONE_OF_EACH + [ALL_WORDS, chain(69), bush(249)]:
            self.leads(tree, tree, 0)

    def test_from_and_to_the_gap(self):
        for tree in ONE_OF_EACH + [ALL_WORDS, chain(69), bush(249)]:
            self.leads(GAP, tree, many_filled(tree))
            self.leads(tree, GAP, 0 if tree == GAP else 1)

    def test_other_words_and_notes(self):
        plus = ("plus", None, (ONE, TWO))
        self.leads(ONE, TWO, 2)
        self.leads(ONE, YES, 2)
        self.leads(("num", 0, ()), ("truth", False, ()), 2)
        self.leads(plus, ("minus", None, (ONE, TWO)), 4)
        self.leads(("fn", "x", (plus,)), ("fn", "y", (plus,)), 5)
        self.leads(("fn", "x", (plus,)), ("fn", "x", (("plus", None, (ONE, ONE)),)), 2)
        self.leads(("rec", ("f", "x"), (ONE,)), ("rec", ("x", "f"), (ONE,)), 3)
        self.leads(("let", "x", (ONE, plus)), ("let", "x", (plus, ONE)), 6)

    def test_to_cut_and_begin_anew(self):
        bare_if = ("if", None, (GAP, GAP, GAP))
        self.leads(("if", None, (YES, ONE, TWO)), bare_if, 2)
        self.leads(("fn", "x", (("if", None, (YES, ONE, TWO)),)), ("fn", "x", (bare_if,)), 2)
        self.leads(("if", None, (YES, ONE, TWO)), ("if", None, (TWO, GAP, GAP)), 3)
        self.leads(("if", None, (YES, ONE, TWO)), ("if", None, (YES, ONE, GAP)), 1)
        self.leads(("if", None, (YES, ONE, TWO)), ("if", None, (GAP, ONE, GAP)), 2)
        wide = ("if", None, (("if", None, (ONE, ONE, ONE)),) * 3)
        self.leads(wide, ("if", None, (bare_if, bare_if, bare_if)), 5)
        self.leads(wide, ("if", None, (bare_if, GAP, GAP)), 3)
        self.leads(wide, ("if", None, (bare_if, wide[2][0], GAP)), 3)

    def test_held_against_a_search(self):
        plain = [("num", 1), ("fn", "x"), ("plus", None), ("if", None)]
        noted = [("num", 1), ("num", 2), ("truth", True), ("fn", "x"), ("fn", "y"), ("let", "x")]
        for tops, most, beyond in ((plain, 5, 7), (noted, 3, 4)):
            forms = [tree for many in range(1, beyond + 1) for tree in trees_of(tops, many)]
            steps = {tree: [other for other in one_deed_on(tree, tops) if size(other) <= beyond] for tree in forms}
            small = [tree for tree in forms if size(tree) <= most]
            for tree in small:
                found = fewest(tree, steps)
                for other in small:
                    self.leads(tree, other, found[other])

    def test_other_at_one_place_alone(self):
        for tree in (ALL_WORDS, chain(30), bush(31)):
            for place in places(tree):
                form = form_at(tree, place)
                other = with_at(tree, place, ("odd", "then", ()))
                self.leads(tree, other, 1 if form == GAP else 2)
                self.leads(other, tree, few(other, tree))
                self.leads(tree, with_at(tree, place, GAP), 0 if form == GAP else 1)

    def test_parts_shared_at_other_places(self):
        for tree in grown_trees(3, 30, 20):
            for other in (("fn", "x", (tree,)), ("plus", None, (tree, tree)), ("let", "x", (GAP, tree))):
                self.leads(tree, other, few(tree, other))
                self.leads(other, tree, few(other, tree))

    def test_trees_by_chance(self):
        trees = grown_trees(5, 25, 30) + ONE_OF_EACH + [ALL_WORDS]
        for tree in trees:
            for other in trees:
                self.leads(tree, other, few(tree, other))

    def test_near_trees_by_chance(self):
        chance = random.Random(9)
        for tree in grown_trees(13, 60, 250):
            other = tree
            for turn in range(chance.randint(1, 12)):
                place = chance.choice(places(other))
                other = with_at(other, place, chance.choice([GAP, ONE, ONE_OF_EACH[9], ("fn", "x", (GAP,))]))
            self.leads(tree, other, few(tree, other))
            self.leads(other, tree, few(other, tree))

    def test_great_trees(self):
        deep = [chain(69), chain(69, NUM), chain(90, YES), chain(91), chain(60, bush(21))]
        full = behind(bush(249), [(place, Fill(ONE)) for place in gaps(bush(249))])
        broad = [("fn", "x", (bush(249),)), bush(249), full]
        for tree in deep + broad:
            for other in deep + broad:
                self.leads(tree, other, few(tree, other))

    def test_lists_are_the_askers_own(self):
        for tree, other in ((ALL_WORDS, ODD), (GAP, ALL_WORDS), (ALL_WORDS, ALL_WORDS), (NUM, GAP)):
            first, second = row_to(tree, other), row_to(tree, other)
            self.assertIsNot(first, second)
            first.append(((9,), Cut()))
            first.reverse()
            self.assertEqual(behind(tree, second), other)
            second.clear()
            self.leads(tree, other, few(tree, other))


if __name__ == "__main__":
    unittest.main()
