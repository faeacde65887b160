"""Going on, held against the run of the filled tree, against other orders of filling, and runs and going on against a
second reckoning that nests calls as forms are nested."""

import contextlib
import random
import sys
import unittest

from gapscribe.errors import TooLong
from gapscribe.forms import GAP
from gapscribe.going import go_on
from gapscribe.places import form_at, gaps, places, with_at
from gapscribe.runs import run
from gapscribe.scopes import names_at
from tests.samples import (
    ALL_WORDS, KINDS, ODD, YES, busy, busy_trees, call, fitting, fitting_trees, fn, grown_trees, name, num, plus, rec,
    when,
)


def told(tell, *handed):
    """What is told, or None where it is refused with TooLong."""
    try:
        return tell(*handed)
    except TooLong:
        return None


class Reckoning:
    """The rules of runs and of going on, as they are written."""

    def __init__(self, tree, steps):
        self.tree, self.steps, self.rows = tree, steps, []

    def new(self, place, operands, around):
        self.rows.append((form_at(self.tree, place)[0], place, list(operands), list(around)))
        return ("row", len(self.rows) - 1)

    def come(self, place, around):
        word, note, parts = form_at(self.tree, place)
        self.steps += word != "gap"
        if self.steps > 500:
            raise TooLong
        if word in ("num", "truth"):
            return (word, note)
        if word == "name":
            pairs = [pair for pair in around if pair[0] == note]
            return pairs[-1][1] if pairs else self.new(place, [], [])
        if word in ("gap", "fn", "rec"):
            return self.new(place, [], around)
        if word == "odd":
            return self.new(place, [], [])
        if word == "let":
            return self.come(place + (1,), around + [(note, self.come(place + (0,), around))])
        many = 1 if word == "if" else 2
        return self.further(place, [self.come(place + (number,), around) for number in range(many)], around)

    def further(self, place, operands, around):
        word = form_at(self.tree, place)[0]
        sorts = [thing[0] for thing in operands]
        if word == "if":
            if sorts == ["truth"]:
                return self.come(place + (1 if operands[0][1] else 2,), around)
            return self.new(place, operands, around)
        if word == "call":
            return self.called(place, operands)
        if sorts != ["num", "num"]:
            return self.new(place, operands, [])
        left, right = operands[0][1], operands[1][1]
        return ("truth", left < right) if word == "less" else ("num", left + right if word == "plus" else left - right)

    def called(self, place, operands):
        function, second = operands
        if function[0] == "row":
            word, where, none, around = self.rows[function[1]]
            note = form_at(self.tree, where)[1]
            if word == "fn":
                return self.come(where + (0,), around + [(note, second)])
            if word == "rec":
                return self.come(where + (0,), around + [(note[0], function), (note[1], second)])
        return self.new(place, operands, [])


@contextlib.contextmanager
def many_calls():
    kept = sys.getrecursionlimit()
    sys.setrecursionlimit(10000)
    try:
        yield
    finally:
        sys.setrecursionlimit(kept)


def second_run(tree):
    machine = Reckoning(tree, 0)
    with many_calls():
        answer = machine.come((), [])
    return (answer, machine.rows, machine.steps)


def second_go_on(tree, record, place, form):
    answer, rows, steps = record
    machine = Reckoning(with_at(tree, place, form), steps)
    became = {}

    def now(thing):
        return became.get(thing, thing)

    for number, (word, where, operands, around) in enumerate(rows):
        operands = [now(thing) for thing in operands]
        around = [(bound, now(thing)) for bound, thing in around]
        with many_calls():
            if word == "gap" and where == place:
                thing = machine.come(where, around)
            elif word in ("gap", "fn", "rec", "odd", "name"):
                thing = machine.new(where, operands, around)
            else:
                thing = machine.further(where, operands, around)
        became[("row", number)] = thing
    return (now(answer), machine.rows, machine.steps)


MANY_OPERANDS = {"plus": 2, "minus": 2, "less": 2, "call": 2, "if": 1, "gap": 0, "fn": 0, "rec": 0, "odd": 0, "name": 0}


def any_thing(chance, ahead):
    if ahead and chance.random() < 0.6:
        return ("row", chance.randrange(ahead))
    return ("truth", chance.random() < 0.5) if chance.random() < 0.3 else ("num", chance.randrange(-3, 10))


def any_record(chance, tree, most):
    """A record that fits the tree, of at most so many rows, by chance alone."""
    fitting_places = [place for place in places(tree) if form_at(tree, place)[0] in MANY_OPERANDS]
    rows = []
    for ahead in range(chance.randint(0, most) if fitting_places else 0):
        place = chance.choice(fitting_places)
        word = form_at(tree, place)[0]
        around = names_at(tree, place) if word in ("gap", "fn", "rec", "if") else []
        operands = [any_thing(chance, ahead) for number in range(MANY_OPERANDS[word])]
        rows.append((word, place, operands, [(bound, any_thing(chance, ahead)) for bound in around]))
    steps = chance.choice([0, 1, chance.randint(0, 500), 480, 495, 499, 500])
    return (any_thing(chance, len(rows)), rows, steps)


def opened(chance, tree, many):
    """The tree with gaps in the place of at most so many forms, none within another, and these by their places."""
    cut = {}
    for place in chance.sample(places(tree), min(many, len(places(tree)))):
        if place != () and not any(place[:len(other)] == other or other[:len(place)] == place for other in cut):
            cut[place] = form_at(tree, place)
    made = tree
    for place in cut:
        made = with_at(made, place, GAP)
    return made, cut


def fillings(chance, tree, place, many):
    """Forms of many sorts, with names that are bound at the place and with others."""
    names = names_at(tree, place)
    around = tuple((bound, chance.choice(KINDS)) for bound in names)
    forms = [GAP, num(chance.choice([0, 1, 3, 200])), YES, ODD, name(chance.choice(names + ["x", "zz"])), FOREVER]
    forms += [busy(chance, chance.randint(2, 8), tuple(names)) for number in range(3)]
    forms += [fitting(chance, chance.randint(1, 3), chance.choice(KINDS), around) for number in range(4)]
    return chance.sample(forms, many)


FOREVER = call(rec("f", "x", call(name("f"), name("x"))), num(0))
FIXED = [
    GAP, ALL_WORDS, plus(GAP, GAP), when(GAP, GAP, GAP), call(GAP, GAP), call(fn("x", GAP), GAP),
    call(rec("f", "x", GAP), GAP), call(rec("f", "x", call(name("f"), GAP)), num(1)),
]


class RunTest(unittest.TestCase):
    def test_the_second_reckoning(self):
        trees = busy_trees(51, 600, 2, 60) + grown_trees(51, 600, 60) + fitting_trees(51, 600, 5, 250) + FIXED
        answers = [told(run, tree) for tree in trees]
        for tree, answer in zip(trees, answers):
            self.assertEqual(answer, told(second_run, tree), tree)
        # Else too few of one sort would have been tried.
        self.assertGreater(len([answer for answer in answers if answer is None]), 10)
        self.assertGreater(len([answer for answer in answers if answer and answer[2] > 100]), 10)


class FilledTest(unittest.TestCase):
    """Fillings of trees with gaps, by a rule."""

    def pairs(self, seed, many):
        """Trees with gaps, each with a gap's place and a form to fill it with."""
        chance = random.Random(seed)
        trees = busy_trees(seed, many, 2, 40) + grown_trees(seed, many, 40) + fitting_trees(seed, many, 5, 200)
        for tree in trees + FIXED:
            open_places = gaps(tree)
            for place in chance.sample(open_places, min(3, len(open_places))):
                for form in fillings(chance, tree, place, 4):
                    yield tree, place, form

    def cases(self, seed, many, most):
        """Trees without marks from which forms were cut out, and these forms."""
        chance = random.Random(seed)
        for tree in fitting_trees(seed, many, 5, 200) + busy_trees(seed, many, 5, 30):
            yield (chance, tree) + opened(chance, tree, most)

    def test_going_on_is_the_run_anew(self):
        refused = made = 0
        for tree, place, form in self.pairs(52, 250):
            ahead = told(run, tree)
            anew = told(run, with_at(tree, place, form))
            if ahead is None:
                self.assertIsNone(anew, (tree, place, form))
                refused += 1
            else:
                self.assertEqual(told(go_on, tree, ahead, place, form), anew, (tree, place, form))
                made += anew is None
        self.assertGreater(refused, 10)
        self.assertGreater(made, 10)

    def test_what_was_cut_out_is_filled_in(self):
        for chance, tree, made, cut in self.cases(53, 400, 1):
            for place, form in cut.items():
                ahead = told(run, made)
                self.assertEqual(ahead and told(go_on, made, ahead, place, form), told(run, tree), tree)

    def test_in_whatever_order(self):
        for chance, tree, made, cut in self.cases(54, 300, 5):
            right = told(run, tree)
            for turn in range(3):
                tree_now, record = made, told(run, made)
                for place in chance.sample(list(cut), len(cut)):
                    record = record and told(go_on, tree_now, record, place, cut[place])
                    tree_now = with_at(tree_now, place, cut[place])
                self.assertEqual(tree_now, tree)
                self.assertEqual(record, right, tree)

    def test_in_two_steps(self):
        for chance, tree, made, cut in self.cases(55, 400, 1):
            for place, form in cut.items():
                with_gaps, within = opened(chance, form, 2)
                tree_now, record = with_at(made, place, with_gaps), told(run, made)
                record = record and told(go_on, made, record, place, with_gaps)
                for inner, last in within.items():
                    record = record and told(go_on, tree_now, record, place + inner, last)
                    tree_now = with_at(tree_now, place + inner, last)
                self.assertEqual(record, told(run, tree), tree)

    def test_a_refused_run_is_refused_with_each_filling(self):
        many = 0
        for tree, place, form in self.pairs(56, 250):
            if told(run, tree) is None:
                self.assertIsNone(told(run, with_at(tree, place, form)))
                many += 1
        self.assertGreater(many, 10)


class AnyRecordTest(unittest.TestCase):
    """Records by chance, that fit their trees."""

    def cases(self, seed, many):
        chance = random.Random(seed)
        trees = busy_trees(seed, many, 2, 25) + grown_trees(seed, many, 25) + fitting_trees(seed, many, 4, 60) + FIXED
        for tree in trees:
            for turn in range(2):
                if gaps(tree):
                    yield chance, tree, any_record(chance, tree, 12)

    def test_the_second_reckoning(self):
        for chance, tree, record in self.cases(57, 500):
            place = chance.choice(gaps(tree))
            for form in fillings(chance, tree, place, 3):
                self.assertEqual(
                    told(go_on, tree, record, place, form), told(second_go_on, tree, record, place, form),
                    (tree, record, place, form))

    def test_in_either_order(self):
        for chance, tree, record in self.cases(58, 500):
            if len(gaps(tree)) < 2:
                continue
            pairs = [(place, fillings(chance, tree, place, 1)[0]) for place in chance.sample(gaps(tree), 2)]
            ends = []
            for (place, form), (other, last) in (pairs, pairs[::-1]):
                first = told(go_on, tree, record, place, form)
                ends.append(first and told(go_on, with_at(tree, place, form), first, other, last))
            self.assertEqual(ends[0], ends[1], (tree, record, pairs))

    def test_in_two_steps(self):
        for chance, tree, record in self.cases(59, 500):
            place = chance.choice(gaps(tree))
            form = fillings(chance, tree, place, 1)[0]
            once = told(go_on, tree, record, place, form)
            first = told(go_on, tree, record, place, GAP)
            self.assertEqual(first and told(go_on, tree, first, place, form), once)
            with_gaps, within = opened(chance, form, 1)
            for inner, last in within.items():
                first = told(go_on, tree, record, place, with_gaps)
                second = first and told(go_on, with_at(tree, place, with_gaps), first, place + inner, last)
                self.assertEqual(second, once, (tree, record, place, form))

    def test_what_is_told_fits_the_filled_tree(self):
        for chance, tree, record in self.cases(60, 200):
            place = chance.choice(gaps(tree))
            form = fillings(chance, tree, place, 1)[0]
            end = told(go_on, tree, record, place, form)
            filled = with_at(tree, place, form)
            for number, (word, where, operands, around) in enumerate(end[1] if end else []):
                self.assertEqual(word, form_at(filled, where)[0])
                self.assertEqual(len(operands), MANY_OPERANDS[word])
                names = names_at(filled, where) if word in ("gap", "fn", "rec", "if") else []
                self.assertEqual([bound for bound, thing in around], names)
                for thing in operands + [thing for bound, thing in around]:
                    self.assertTrue(thing[0] != "row" or 0 <= thing[1] < number)


if __name__ == "__main__":
    unittest.main()
