import copy
import unittest

from gapscribe.errors import NoDeed, NoPlace, TooLong
from gapscribe.forms import GAP, is_form
from gapscribe.going import go_on
from gapscribe.places import form_at, gaps, places, with_at
from gapscribe.runs import run
from tests.samples import (
    ALL_WORDS, NO, ODD, YES, call, chain, few_calls, fn, less, let, lists_in, minus, name, no_places, num, plus, rec,
    record, when,
)

F, G, X, Y, N = [name(text) for text in "fgxyn"]
SAME = fn("x", X)
FOREVER = rec("f", "x", call(F, X))
OPERATIONS = {"plus": plus, "minus": minus, "less": less}


class GoingTest(unittest.TestCase):
    def check(self, tree, ahead, place, form, answer, steps, *rows):
        self.assertTrue(is_form(tree))
        with self.subTest(tree=tree, place=place, form=form):
            self.assertEqual(go_on(tree, ahead, place, form), record(answer, steps, *rows))

    def check_run(self, tree, place, form, answer, steps, *rows):
        """Of the record of the tree's own run; what is told is then also the record of the filled tree's run."""
        self.check(tree, run(tree), place, form, answer, steps, *rows)
        self.assertEqual(run(with_at(tree, place, form)), record(answer, steps, *rows))


class RunRecordsTest(GoingTest):
    def test_a_gap_alone(self):
        for form, answer, steps, rows in [
            (num(5), "5", 1, []),
            (YES, "yes", 1, []),
            (GAP, "#0", 0, ["gap /"]),
            (ODD, "#0", 1, ["odd /"]),
            (X, "#0", 1, ["name /"]),
            (SAME, "#0", 1, ["fn /"]),
            (rec("f", "x", X), "#0", 1, ["rec /"]),
            (plus(num(2), num(3)), "5", 3, []),
            (plus(GAP, num(3)), "#1", 2, ["gap 0", "plus / : #0 3"]),
            (let("x", GAP, GAP), "#1", 1, ["gap 0", "gap 1 : : x=#0"]),
            (when(GAP, GAP, GAP), "#1", 1, ["gap 0", "if / : #0"]),
            (call(SAME, num(2)), "2", 4, ["fn 0"]),
        ]:
            self.check_run(GAP, (), form, answer, steps, *rows)

    def test_operations(self):
        for word, right in [("plus", "7"), ("minus", "1"), ("less", "no")]:
            make = OPERATIONS[word]
            self.check_run(make(GAP, num(3)), (0,), num(4), right, 3)
            self.check_run(make(num(4), GAP), (1,), num(3), right, 3)
            self.check_run(make(GAP, num(3)), (0,), YES, "#0", 3, f"{word} / : yes 3")
            self.check_run(make(GAP, num(3)), (0,), SAME, "#1", 3, "fn 0", f"{word} / : #0 3")
            self.check_run(make(GAP, num(3)), (0,), X, "#1", 3, "name 0", f"{word} / : #0 3")
            self.check_run(make(GAP, num(3)), (0,), GAP, "#1", 2, "gap 0", f"{word} / : #0 3")
            self.check_run(make(GAP, GAP), (0,), num(3), "#1", 2, "gap 1", f"{word} / : 3 #0")
            self.check_run(make(GAP, GAP), (1,), num(3), "#1", 2, "gap 0", f"{word} / : #0 3")
            self.check_run(
                make(GAP, num(3)), (0,), plus(GAP, num(1)), "#2", 4, "gap 0.0", "plus 0 : #0 1", f"{word} / : #1 3")
        self.check_run(less(GAP, num(3)), (0,), num(2), "yes", 3)
        self.check_run(minus(GAP, num(3)), (0,), num(0), "-3", 3)

    def test_what_waits_for_what_waits(self):
        tree = less(plus(minus(GAP, num(1)), num(2)), GAP)
        self.check_run(tree, (0, 0, 0), num(9), "#1", 6, "gap 1", "less / : 10 #0")
        self.check_run(
            tree, (1,), num(9), "#3", 6, "gap 0.0.0", "minus 0.0 : #0 1", "plus 0 : #1 2", "less / : #2 9")
        self.check_run(
            tree, (0, 0, 0), YES, "#3", 6, "minus 0.0 : yes 1", "plus 0 : #0 2", "gap 1", "less / : #1 #2")

    def test_if(self):
        self.check_run(when(GAP, num(1), num(2)), (0,), YES, "1", 3)
        self.check_run(when(GAP, num(1), num(2)), (0,), NO, "2", 3)
        self.check_run(when(GAP, num(1), num(2)), (0,), num(3), "#0", 2, "if / : 3")
        self.check_run(when(GAP, num(1), num(2)), (0,), SAME, "#1", 2, "fn 0", "if / : #0")
        self.check_run(
            when(GAP, num(1), num(2)), (0,), less(GAP, num(1)), "#2", 3, "gap 0.0", "less 0 : #0 1", "if / : #1")
        self.check_run(when(GAP, GAP, GAP), (0,), YES, "#0", 2, "gap 1")
        self.check_run(when(GAP, GAP, GAP), (0,), NO, "#0", 2, "gap 2")
        self.check_run(when(GAP, GAP, num(2)), (1,), num(5), "#1", 1, "gap 0", "if / : #0")
        self.check_run(when(YES, GAP, num(2)), (1,), num(5), "5", 3)

    def test_if_with_names_around(self):
        tree = let("x", num(1), let("y", GAP, when(Y, plus(X, num(1)), GAP)))
        self.check_run(tree, (1, 0), YES, "2", 9)
        self.check_run(tree, (1, 0), NO, "#0", 6, "gap 1.1.2 : : x=1 y=no")
        self.check_run(
            tree, (1, 0), Y, "#1", 6, "name 1.0", "if 1.1 : #0 : x=1 y=#0")
        self.check_run(
            tree, (1, 0), call(GAP, X), "#2", 7, "gap 1.0.0 : : x=1", "call 1.0 : #0 1", "if 1.1 : #1 : x=1 y=#1")
        self.check_run(
            tree, (1, 1, 2), X, "#1", 5, "gap 1.0 : : x=1", "if 1.1 : #0 : x=1 y=#0")

    def test_call(self):
        self.check_run(call(GAP, num(4)), (0,), fn("x", plus(X, num(1))), "5", 6, "fn 0")
        self.check_run(call(GAP, num(4)), (0,), rec("x", "x", X), "4", 4, "rec 0")
        self.check_run(call(GAP, num(4)), (0,), num(3), "#0", 3, "call / : 3 4")
        self.check_run(call(GAP, num(4)), (0,), NO, "#0", 3, "call / : no 4")
        self.check_run(call(GAP, num(4)), (0,), ODD, "#1", 3, "odd 0", "call / : #0 4")
        self.check_run(call(GAP, GAP), (0,), SAME, "#1", 3, "fn 0", "gap 1")
        self.check_run(call(GAP, GAP), (1,), SAME, "#2", 2, "gap 0", "fn 1", "call / : #0 #1")
        self.check_run(call(SAME, GAP), (1,), YES, "yes", 4, "fn 0")
        self.check_run(
            call(GAP, num(4)), (0,), call(GAP, num(5)), "#2", 4, "gap 0.0", "call 0 : #0 5", "call / : #1 4")
        self.check_run(
            call(call(GAP, num(1)), num(2)), (0, 0), fn("x", fn("y", minus(X, Y))), "-1", 9, "fn 0.0",
            "fn 0.0.0 : : x=1")

    def test_a_rec_that_calls_itself(self):
        down = when(less(N, num(1)), GAP, plus(N, call(F, minus(N, num(1)))))
        self.check_run(
            call(rec("f", "n", down), GAP), (1,), num(2), "#3", 29, "rec 0", "gap 0.0.1 : : f=#0 n=0",
            "plus 0.0.2 : 1 #1", "plus 0.0.2 : 2 #2")
        self.check_run(call(rec("f", "n", down), num(2)), (0, 0, 1), minus(N, num(7)), "-4", 32, "rec 0")
        self.check_run(
            call(GAP, num(1)), (0,), rec("f", "n", down), "#2", 18, "rec 0", "gap 0.0.1 : : f=#0 n=0",
            "plus 0.0.2 : 1 #1")

    def test_a_gap_come_to_several_times(self):
        tree = let("f", fn("x", GAP), plus(call(F, num(1)), call(F, num(2))))
        self.check_run(tree, (0, 0), plus(X, num(10)), "23", 15, "fn 0")
        self.check_run(tree, (0, 0), num(3), "6", 11, "fn 0")
        self.check_run(
            tree, (0, 0), plus(GAP, X), "#5", 13, "fn 0", "gap 0.0.0 : : x=1", "plus 0.0 : #1 1", "gap 0.0.0 : : x=2",
            "plus 0.0 : #3 2", "plus 1 : #2 #4")
        self.check_run(
            tree, (0, 0), fn("y", GAP), "#3", 11, "fn 0", "fn 0.0 : : x=1", "fn 0.0 : : x=2", "plus 1 : #1 #2")
        self.check_run(tree, (0, 0), Y, "#3", 11, "fn 0", "name 0.0", "name 0.0", "plus 1 : #1 #2")

    def test_a_gap_not_come_to(self):
        self.check_run(fn("x", GAP), (0,), num(3), "#0", 1, "fn /")
        self.check_run(when(YES, num(1), GAP), (2,), num(3), "1", 3)
        self.check_run(when(GAP, num(1), GAP), (2,), num(3), "#1", 1, "gap 0", "if / : #0")

    def test_the_answer(self):
        self.check_run(let("x", GAP, X), (0,), num(3), "3", 3)
        self.check_run(let("x", GAP, X), (0,), SAME, "#0", 3, "fn 0")
        self.check_run(let("x", GAP, num(7)), (0,), num(3), "7", 3)
        self.check_run(let("x", GAP, num(7)), (0,), GAP, "7", 2, "gap 0")
        self.check_run(let("x", GAP, let("y", GAP, Y)), (0,), num(3), "#0", 4, "gap 1.0 : : x=3")
        self.check_run(let("x", GAP, fn("y", X)), (0,), num(3), "#0", 3, "fn 1 : : x=3")
        self.check_run(let("x", GAP, fn("y", X)), (0,), plus(GAP, ODD), "#3", 4, "gap 0.0", "odd 0.1", "plus 0 : #0 #1",
                       "fn 1 : : x=#2")

    def test_names(self):
        twice = let("x", num(1), let("x", num(2), GAP))
        self.check_run(twice, (1, 1), X, "2", 5)
        self.check_run(twice, (1, 1), Y, "#0", 5, "name 1.1")
        self.check_run(twice, (1, 1), plus(X, Y), "#1", 7, "name 1.1.1", "plus 1.1 : 2 #0")
        self.check_run(twice, (1, 1), let("x", num(3), plus(X, X)), "6", 9)
        self.check_run(twice, (1, 1), fn("x", X), "#0", 5, "fn 1.1 : : x=1 x=2")
        self.check_run(twice, (1, 1), GAP, "#0", 4, "gap 1.1 : : x=1 x=2")
        self.check_run(twice, (1, 1), let("y", X, GAP), "#0", 6, "gap 1.1.1 : : x=1 x=2 y=2")
        self.check_run(call(rec("f", "f", GAP), num(3)), (0, 0), F, "3", 4, "rec 0")
        self.check_run(call(rec("f", "x", GAP), num(3)), (0, 0), F, "#0", 4, "rec 0")

    def test_new_numbers_in_operands_and_arounds(self):
        tree = let("x", GAP, let("y", plus(X, num(1)), let("f", fn("n", X), call(GAP, F))))
        self.check_run(
            tree, (0,), num(4), "#2", 10, "fn 1.1.0 : : x=4 y=5", "gap 1.1.1.0 : : x=4 y=5 f=#0", "call 1.1.1 : #1 #0")
        self.check_run(
            tree, (0,), plus(GAP, ODD), "#6", 11, "gap 0.0", "odd 0.1", "plus 0 : #0 #1", "plus 1.0 : #2 1",
            "fn 1.1.0 : : x=#2 y=#3", "gap 1.1.1.0 : : x=#2 y=#3 f=#4", "call 1.1.1 : #5 #4")
        self.check_run(
            tree, (1, 1, 1, 0), fn("g", call(G, num(0))), "#0", 14, "gap 0", "plus 1.0 : #0 1",
            "fn 1.1.0 : : x=#0 y=#1", "fn 1.1.1.0 : : x=#0 y=#1 f=#2")
        self.check_run(
            tree, (1, 1, 1, 0), call(F, Y), "#3", 13, "gap 0", "plus 1.0 : #0 1", "fn 1.1.0 : : x=#0 y=#1",
            "call 1.1.1 : #0 #2")

    def test_rows_of_other_words_beside(self):
        tree = plus(ODD, plus(X, minus(SAME, less(rec("f", "x", X), GAP))))
        self.check_run(
            tree, (1, 1, 1, 1), num(1), "#7", 9, "odd 0", "name 1.0", "fn 1.1.0", "rec 1.1.1.0", "less 1.1.1 : #3 1",
            "minus 1.1 : #2 #4", "plus 1 : #1 #5", "plus / : #0 #6")
        tree = plus(GAP, plus(ODD, plus(X, minus(SAME, rec("f", "x", X)))))
        self.check_run(
            tree, (0,), num(1), "#7", 9, "odd 1.0", "name 1.1.0", "fn 1.1.1.0", "rec 1.1.1.1",
            "minus 1.1.1 : #2 #3", "plus 1.1 : #1 #4", "plus 1 : #0 #5", "plus / : 1 #6")

    def test_all_words(self):
        self.check_run(
            ALL_WORDS, (1, 0, 0, 0), call(F, num(7)), "#4", 23, "rec 0", "fn 1.0.0 : : f=#0", "gap 0.0.1 : : g=#0 n=6",
            "odd 1.1", "plus 1 : #2 #3")
        self.check_run(
            ALL_WORDS, (0, 0, 1), num(7), "#4", 7, "rec 0", "fn 1.0.0 : : f=#0", "gap 1.0.0.0 : : f=#0 y=yes",
            "odd 1.1", "plus 1 : #2 #3")


class OtherRecordsTest(GoingTest):
    """Records that fit their trees but that no run told."""

    def test_operations_of_two_numbers(self):
        for word, right in [("plus", "3"), ("minus", "-1"), ("less", "yes")]:
            tree = OPERATIONS[word](GAP, num(9))
            ahead = record("#1", 2, "gap 0", f"{word} / : 1 2")
            self.check(tree, ahead, (0,), YES, right, 3)
            self.check(tree, ahead, (0,), GAP, right, 2, "gap 0")

    def test_operations_one_behind_the_other(self):
        ahead = record("#3", 0, "plus / : 1 2", "plus / : #0 #0", "less 0 : #1 #0", "plus / : #2 #1")
        self.check(plus(less(GAP, num(1)), num(9)), ahead, (0, 0), num(5), "#0", 0, "plus / : no 6")

    def test_if_of_a_truth(self):
        tree = when(num(1), num(5), GAP)
        self.check(tree, record("#0", 0, "if / : yes"), (2,), num(6), "5", 1)
        self.check(tree, record("#0", 0, "if / : no"), (2,), num(6), "6", 1)
        self.check(tree, record("#0", 4, "if / : no"), (2,), GAP, "#0", 4, "gap 2")
        self.check(tree, record("#0", 4, "if / : no"), (2,), plus(GAP, X), "#2", 6, "gap 2.0", "name 2.1",
                   "plus 2 : #0 #1")
        self.check(tree, record("#0", 4, "if / : 1"), (2,), num(6), "#0", 4, "if / : 1")

    def test_if_with_the_around_of_its_row(self):
        tree = let("x", num(1), when(GAP, X, GAP))
        ahead = record("#1", 9, "if 1 : yes : x=8", "if 1 : no : x=#0", "gap 1.0 : : x=#1")
        self.check(tree, ahead, (1, 0), X, "#0", 11, "gap 1.2 : : x=8")
        self.check(tree, ahead, (1, 2), plus(X, X), "16", 13, "gap 1.0 : : x=16")

    def test_call_of_a_function(self):
        tree = let("f", fn("x", plus(X, Y)), call(GAP, GAP))
        self.check(
            tree, record("#1", 3, "fn 0", "call 1 : #0 7"), (1, 0), num(0), "#2", 6, "fn 0", "name 0.0.1",
            "plus 0.0 : 7 #1")
        tree = let("y", num(1), let("f", fn("x", plus(X, Y)), call(GAP, GAP)))
        self.check(
            tree, record("#2", 3, "fn 1.0 : : y=20", "fn 1.0 : : y=30", "call 1.1 : #1 7"), (1, 1, 1), num(0), "37", 6,
            "fn 1.0 : : y=20", "fn 1.0 : : y=30")
        self.check(
            tree, record("#2", 3, "gap 1.1.0 : : y=0 f=1", "fn 1.0 : : y=#0", "call 1.1 : #1 7"), (1, 1, 0), F, "8", 7,
            "fn 1.0 : : y=1")

    def test_call_of_a_rec(self):
        tree = call(rec("f", "x", GAP), num(3))
        ahead = record("#1", 0, "rec 0", "call / : #0 yes")
        self.check(tree, ahead, (0, 0), X, "yes", 1, "rec 0")
        self.check(tree, ahead, (0, 0), F, "#0", 1, "rec 0")
        self.check(tree, ahead, (0, 0), GAP, "#1", 0, "rec 0", "gap 0.0 : : f=#0 x=yes")

    def test_call_of_what_is_no_function(self):
        tree = call(GAP, num(3))
        self.check(tree, record("#0", 0, "call / : 1 2"), (0,), SAME, "#0", 0, "call / : 1 2")
        self.check(tree, record("#1", 0, "gap 0", "call / : yes #0"), (0,), num(5), "#0", 1, "call / : yes 5")

    def test_names_and_odd_texts_stay_rows(self):
        tree = let("x", num(1), plus(X, plus(ODD, GAP)))
        self.check(tree, record("#0", 1, "name 1.0"), (1, 1, 1), num(2), "#0", 1, "name 1.0")
        self.check(
            tree, record("#3", 1, "gap 1.1.1 : : x=5", "name 1.0", "odd 1.1.0", "plus 1 : #1 #0", "name 1.0"),
            (1, 1, 1), X, "#2", 2, "name 1.0", "odd 1.1.0", "plus 1 : #0 5", "name 1.0")

    def test_functions_and_gaps_stay_rows(self):
        tree = fn("x", plus(rec("f", "x", GAP), plus(fn("y", GAP), GAP)))
        ahead = record(
            "#4", 5, "gap 0.1.1 : : x=1", "rec 0.0 : : x=#0", "fn 0.1.0 : : x=#0", "gap 0.0.0 : : x=#0 f=#1 x=#2",
            "gap 0.1.0.0 : : x=#3 y=#0")
        self.check(
            tree, ahead, (0, 1, 1), YES, "#3", 6, "rec 0.0 : : x=yes", "fn 0.1.0 : : x=yes",
            "gap 0.0.0 : : x=yes f=#0 x=#1", "gap 0.1.0.0 : : x=#2 y=yes")
        self.check(
            tree, ahead, (0, 0, 0), X, "#3", 6, "gap 0.1.1 : : x=1", "rec 0.0 : : x=#0", "fn 0.1.0 : : x=#0",
            "gap 0.1.0.0 : : x=#2 y=#0")

    def test_one_gap_with_many_arounds(self):
        tree = fn("x", plus(GAP, GAP))
        ahead = record(
            "#2", 4, "gap 0.0 : : x=1", "gap 0.1 : : x=#0", "gap 0.0 : : x=yes", "plus 0 : #1 #2", "gap 0.0 : : x=#3")
        self.check(tree, ahead, (0, 0), X, "yes", 7, "gap 0.1 : : x=1", "plus 0 : #0 yes")
        self.check(tree, ahead, (0, 1), X, "#1", 5, "gap 0.0 : : x=1", "gap 0.0 : : x=yes", "plus 0 : #0 #1",
                   "gap 0.0 : : x=#2")

    def test_the_answer_tells_of_any_row(self):
        rows = ["gap 0", "gap 1", "plus / : #0 #1"]
        for answer, told in [("#0", "5"), ("#1", "#0"), ("#2", "#1"), ("8", "8"), ("-8", "-8"), ("no", "no")]:
            self.check(
                plus(GAP, GAP), record(answer, 1, *rows), (0,), num(5), told, 2, "gap 1", "plus / : 5 #0")

    def test_no_rows(self):
        for form in (num(1), GAP, call(FOREVER, num(1))):
            self.check(plus(GAP, num(1)), record("7", 3), (0,), form, "7", 3)
            self.check(plus(GAP, num(1)), record("no", 0), (0,), form, "no", 0)

    def test_truths_are_told_as_such(self):
        told = go_on(less(GAP, num(2)), record("#1", 0, "gap 0", "less / : #0 1"), (0,), num(0))
        self.assertIs(told[0][1], True)
        self.assertEqual(go_on(less(GAP, num(2)), record("#0", 0, "less / : yes 1"), (0,), num(0))[0], ("row", 0))

    def test_numbers_of_many_figures(self):
        for big in (10 ** 300 - 1, -10 ** 299):
            ahead = record("#2", 0, "gap 0", f"plus / : {big} {big}", "plus / : #1 #1", f"minus 1 : #2 {-big}")
            self.check(plus(GAP, minus(GAP, GAP)), ahead, (0,), num(1), str(4 * big), 1)
            self.check(plus(GAP, minus(GAP, GAP)), ahead, (1, 0), num(1), str(4 * big), 0, "gap 0")
        self.check(less(GAP, GAP), record("#1", 0, "gap 0", f"less / : {-10 ** 299} #0"), (0,), num(0), "yes", 1)

    def test_2000_rows(self):
        rows = [f"plus / : #{number} #{number}" for number in range(1999)]
        told = go_on(plus(GAP, GAP), record("#1999", 0, "gap 0", *rows), (0,), num(1))
        self.assertEqual(told, (("num", 2 ** 1999), [], 1))
        ahead = record("#1999", 0, "gap 0", *rows)
        self.assertEqual(go_on(plus(GAP, GAP), ahead, (0,), GAP), ahead)
        self.assertEqual(go_on(plus(GAP, GAP), ahead, (1,), num(1)), ahead)
        tree = chain(70)
        place = gaps(tree)[-1]
        around = " ".join(["x=1"] * 35)
        rows = [f"gap {'.'.join(map(str, place))} : : {around}"] * 2000
        self.assertEqual(go_on(tree, record("#7", 3, *rows), place, GAP), record("#7", 3, *rows))


class RefusedTest(unittest.TestCase):
    long = (("num", 1), [], 501)

    def test_no_place(self):
        ahead = run(ALL_WORDS)
        for wrong in no_places(ALL_WORDS):
            for told in (ahead, self.long):
                with self.assertRaises(NoPlace) as caught:
                    go_on(ALL_WORDS, told, wrong, num(1))
                self.assertEqual(caught.exception.place, wrong)

    def test_no_place_ahead_of_too_long(self):
        tree = call(GAP, num(0))
        with self.assertRaises(NoPlace) as caught:
            go_on(tree, run(tree), (2,), FOREVER)
        self.assertEqual(caught.exception.place, (2,))

    def test_not_of_a_gap(self):
        ahead = run(ALL_WORDS)
        for place in places(ALL_WORDS):
            for told in (ahead, self.long):
                for form in (num(1), GAP, form_at(ALL_WORDS, place)):
                    if form_at(ALL_WORDS, place) != GAP:
                        with self.assertRaises(NoDeed):
                            go_on(ALL_WORDS, told, place, form)

    def test_a_gap_is_no_refusal(self):
        self.assertEqual(go_on(GAP, run(GAP), (), GAP), run(GAP))

    def test_500_steps_are_told_and_501_are_not(self):
        for tree, place, form, made in [
            (plus(GAP, num(3)), (0,), num(4), 1),
            (plus(GAP, num(3)), (0,), plus(num(1), GAP), 2),
            (when(GAP, num(1), plus(num(1), num(2))), (0,), YES, 2),
            (when(GAP, num(1), plus(num(1), num(2))), (0,), NO, 4),
            (call(GAP, num(3)), (0,), SAME, 2),
            (call(GAP, num(3)), (0,), GAP, 0),
            (let("f", fn("x", GAP), plus(call(F, num(1)), call(F, num(2)))), (0, 0), X, 2),
            (fn("x", GAP), (0,), num(1), 0),
        ]:
            answer, rows, steps = run(tree)
            self.assertEqual(go_on(tree, (answer, rows, steps), place, form)[2], steps + made)
            self.assertEqual(go_on(tree, (answer, rows, 500 - made), place, form)[2], 500)
            for beyond in (1, 2):
                with self.assertRaises(TooLong):
                    go_on(tree, (answer, rows, 500 - made + beyond), place, form)

    def test_as_many_rows_of_the_gap_as_steps(self):
        for steps, many in [(0, 500), (1, 499), (250, 250), (500, 0)]:
            ahead = record("0", steps, *["gap 0"] * many)
            self.assertEqual(go_on(plus(GAP, GAP), ahead, (0,), num(1)), record("0", 500))
            self.assertEqual(go_on(plus(GAP, GAP), ahead, (1,), num(1)), ahead)
            with self.assertRaises(TooLong):
                go_on(plus(GAP, GAP), record("0", steps, *["gap 0"] * (many + 1)), (0,), num(1))
            self.assertEqual(len(go_on(plus(GAP, GAP), record("0", steps, *["gap 0"] * 2000), (0,), GAP)[1]), 2000)

    def test_what_never_ends(self):
        for tree, place, form in [
            (call(GAP, num(1)), (0,), FOREVER),
            (GAP, (), call(FOREVER, num(1))),
            (when(GAP, call(FOREVER, num(1)), num(1)), (0,), YES),
            (call(rec("f", "x", when(X, call(F, X), num(1))), GAP), (1,), YES),
            (let("f", rec("f", "x", GAP), call(F, num(1))), (0, 0), plus(num(1), call(F, X))),
        ]:
            with self.assertRaises(TooLong):
                go_on(tree, run(tree), place, form)
        with self.assertRaises(TooLong):
            go_on(call(FOREVER, GAP), record("0", 0, "rec 0", "call / : #0 5"), (1,), GAP)

    def test_a_refusal_changes_nothing(self):
        tree = call(GAP, num(1))
        ahead = run(tree)
        kept = copy.deepcopy(ahead)
        for place, form, refusal in [((0,), FOREVER, TooLong), ((1,), num(1), NoDeed), ((2,), num(1), NoPlace)]:
            with self.assertRaises(refusal):
                go_on(tree, ahead, place, form)
            self.assertEqual(ahead, kept)
        self.assertEqual(go_on(tree, ahead, (0,), SAME), record("1", 4, "fn 0"))


class DeepTest(unittest.TestCase):
    def test_calls_nested_deep(self):
        down = rec("f", "n", when(less(N, num(1)), GAP, plus(N, call(F, minus(N, num(1))))))
        tree = call(down, GAP)
        with few_calls(40):
            first = go_on(tree, run(tree), (1,), num(44))
            second = go_on(call(down, num(44)), first, (0, 0, 1), num(0))
        self.assertEqual((first[2], second[2]), (7 + 11 * 44, 8 + 11 * 44))
        self.assertEqual(second[0], ("num", 44 * 45 // 2))
        with few_calls(40), self.assertRaises(TooLong):
            go_on(call(GAP, num(1)), run(call(GAP, num(1))), (0,), rec("f", "x", plus(GAP, call(F, X))))

    def test_forms_nested_deep(self):
        top = bottom = GAP
        for number in range(249):
            top = plus(top, GAP)
            bottom = plus(GAP, bottom)
        with few_calls(40):
            told = go_on(top, run(top), (0,) * 249, bottom)
            last = go_on(with_at(top, (0,) * 249, bottom), told, (0,) * 249 + (1,) * 249, num(1))
        self.assertEqual((told[2], last[2]), (498, 499))
        self.assertEqual([made[0] for made in told[1]], ["gap"] * 250 + ["plus"] * 249 + ["gap", "plus"] * 249)

    def test_rows_that_wait_for_one_another(self):
        tree = call(GAP, GAP)
        rows = ["gap 0"] + [f"call / : #{number} 1" for number in range(166)]
        with few_calls(40):
            told = go_on(tree, record("#166", 0, *rows), (0,), rec("f", "x", let("y", num(1), F)))
        self.assertEqual(told, record("#0", 1 + 3 * 166, "rec 0"))


class OwnListsTest(unittest.TestCase):
    tree = let("f", fn("x", when(GAP, plus(X, GAP), fn("y", X))), call(call(F, GAP), GAP))
    fillings = [GAP, YES, X, plus(GAP, GAP), SAME, let("x", GAP, fn("y", GAP))]

    def records(self):
        yield run(self.tree)
        yield record(
            "#5", 9, "gap 1.0.1 : : f=1", "fn 0", "if 0.0 : yes : x=#0", "fn 0.0.2 : : x=#1", "gap 1.1 : : f=#3",
            "call 1 : #1 #4", "gap 0.0.0 : : x=#5")

    def asked(self):
        for ahead in self.records():
            for place in gaps(self.tree):
                for form in self.fillings:
                    yield ahead, place, form

    def test_what_is_handed_in_is_not_changed(self):
        for ahead, place, form in self.asked():
            kept = copy.deepcopy((self.tree, ahead, place, form))
            go_on(self.tree, ahead, place, form)
            self.assertEqual((self.tree, ahead, place, form), kept)

    def test_no_list_is_there_twice(self):
        lists = []
        for ahead, place, form in self.asked():
            for told in (go_on(self.tree, ahead, place, form), go_on(self.tree, ahead, place, form)):
                lists += lists_in(told)
            handed = {id(one) for one in lists_in(ahead)}
            self.assertFalse(handed & {id(one) for one in lists})
        self.assertEqual(len(lists), len({id(one) for one in lists}))

    def test_lists_that_are_handed_in_several_times(self):
        around, operands = [("x", ("num", 1))], []
        rows = [("gap", (0,), operands, around), ("gap", (0,), operands, around)]
        told = go_on(fn("x", GAP), (("num", 1), rows, 0), (0,), GAP)
        self.assertEqual(told[1], rows)
        self.assertEqual(len({id(one) for one in lists_in(told) + [rows, around, operands]}), 8)

    def test_a_list_that_was_told_and_then_changed(self):
        for ahead, place, form in self.asked():
            first, second = go_on(self.tree, ahead, place, form), go_on(self.tree, ahead, place, form)
            kept = copy.deepcopy(second)
            for one in lists_in(first):
                one.append(("x", ("num", 99)))
                one[0] = "other"
            self.assertEqual(second, kept)
            self.assertEqual(go_on(self.tree, ahead, place, form), kept)

    def test_a_record_that_is_changed_after_it_was_handed_in(self):
        for ahead, place, form in self.asked():
            handed = copy.deepcopy(ahead)
            told = go_on(self.tree, handed, place, form)
            kept = copy.deepcopy(told)
            for one in lists_in(handed):
                one.clear()
            self.assertEqual(told, kept)

    def test_going_on_from_what_is_told(self):
        tree = plus(GAP, GAP)
        first = go_on(tree, run(tree), (0,), num(1))
        kept = copy.deepcopy(first)
        one = go_on(plus(num(1), GAP), first, (1,), num(2))
        other = go_on(plus(num(1), GAP), first, (1,), num(5))
        self.assertEqual((one, other), (record("3", 3), record("6", 3)))
        self.assertEqual(first, kept)


if __name__ == "__main__":
    unittest.main()
