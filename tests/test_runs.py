import copy
import unittest

from gapscribe.errors import GapError, TooLong
from gapscribe.forms import GAP, is_form
from gapscribe.runs import run
from tests.samples import (
    ALL_WORDS, NO, ODD, ONE_OF_EACH, YES, busy_trees, call, few_calls, fn, grown_trees, less, let, lists_in, minus,
    name, num, plus, rec, record, size, when,
)

MOST = 10 ** 18 - 1
F, G, H, X, Y, N = [name(text) for text in "fghxyn"]
SAME = fn("x", X)
OPERATIONS = {"plus": plus, "minus": minus, "less": less}


def summing(last):
    """The sum of all numbers down from the one handed in, and `last` behind them."""
    return rec("f", "n", when(less(N, num(1)), last, plus(N, call(F, minus(N, num(1))))))


def of_steps(many, last=num(0)):
    """A tree whose run has just so many steps (from 20 on), most of them by calls; `last` is of one step or a gap."""
    most = many - (7 if last == GAP else 8)
    deep = (most - 2) // 11
    tree = call(summing(last), num(deep))
    left = most - 11 * deep
    if left % 2:
        tree = call(fn("y", tree), num(0))
        left -= 3
    for number in range(left // 2):
        tree = plus(tree, num(0))
    return tree


class ByHandTest(unittest.TestCase):
    def check(self, tree, answer, steps, *rows):
        self.assertTrue(is_form(tree))
        with self.subTest(tree=tree):
            self.assertEqual(run(tree), record(answer, steps, *rows))


class LeavesTest(ByHandTest):
    def test_numbers_and_truths(self):
        for number in (0, 1, 7, 10 ** 9, MOST):
            self.check(num(number), str(number), 1)
        self.check(YES, "yes", 1)
        self.check(NO, "no", 1)

    def test_a_truth_is_told_as_one(self):
        for tree, truth in [(YES, True), (NO, False), (less(num(0), num(1)), True), (less(num(1), num(1)), False)]:
            answer = run(tree)[0]
            self.assertEqual(answer[0], "truth")
            self.assertIs(answer[1], truth)
        for tree in (num(0), num(1), minus(num(1), num(1))):
            self.assertEqual(run(tree)[0][0], "num")
            self.assertIs(type(run(tree)[0][1]), int)

    def test_rows(self):
        self.check(GAP, "#0", 0, "gap /")
        self.check(ODD, "#0", 1, "odd /")
        self.check(X, "#0", 1, "name /")
        self.check(SAME, "#0", 1, "fn /")
        self.check(rec("f", "x", GAP), "#0", 1, "rec /")
        self.check(rec("x", "x", ODD), "#0", 1, "rec /")

    def test_kinds_of_what_is_told(self):
        told = run(let("x", GAP, plus(X, num(1))))
        self.assertEqual([type(part) for part in told], [tuple, list, int])
        for made in told[1]:
            self.assertEqual([type(part) for part in made], [str, tuple, list, list])
        around = run(let("x", num(1), GAP))[1][0][3]
        self.assertIs(type(around[0]), tuple)
        self.assertIs(type(around[0][1]), tuple)


class ReckonedTest(ByHandTest):
    def test_two_numbers(self):
        for left, right in [(2, 3), (3, 2), (2, 2), (0, 0), (0, MOST), (MOST, 0), (MOST, MOST), (MOST, 1)]:
            self.check(plus(num(left), num(right)), str(left + right), 3)
            self.check(minus(num(left), num(right)), str(left - right), 3)
            self.check(less(num(left), num(right)), "yes" if left < right else "no", 3)

    def test_below_0(self):
        low, high = minus(num(2), num(7)), minus(num(7), num(2))
        self.check(plus(low, low), "-10", 7)
        self.check(minus(low, high), "-10", 7)
        self.check(minus(high, low), "10", 7)
        self.check(less(low, high), "yes", 7)
        self.check(less(high, low), "no", 7)
        self.check(less(low, num(0)), "yes", 5)
        self.check(less(low, low), "no", 7)

    def test_many_figures(self):
        tree = X
        for number in range(60):
            tree = let("x", plus(X, X), tree)
        self.check(let("x", num(MOST), tree), str(MOST * 2 ** 60), 2 + 4 * 60 + 1)
        self.check(let("x", minus(num(0), num(MOST)), tree), str(-MOST * 2 ** 60), 4 + 4 * 60 + 1)

    def test_a_gap_on_either_side(self):
        for word, make in OPERATIONS.items():
            self.check(make(GAP, num(3)), "#1", 2, "gap 0", f"{word} / : #0 3")
            self.check(make(num(3), GAP), "#1", 2, "gap 1", f"{word} / : 3 #0")
            self.check(make(GAP, GAP), "#2", 1, "gap 0", "gap 1", f"{word} / : #0 #1")

    def test_a_wrong_sort_on_either_side(self):
        for word, make in OPERATIONS.items():
            self.check(make(YES, num(3)), "#0", 3, f"{word} / : yes 3")
            self.check(make(num(3), NO), "#0", 3, f"{word} / : 3 no")
            self.check(make(YES, NO), "#0", 3, f"{word} / : yes no")
            self.check(make(NO, YES), "#0", 3, f"{word} / : no yes")
            self.check(make(YES, GAP), "#1", 2, "gap 1", f"{word} / : yes #0")
            self.check(make(SAME, num(3)), "#1", 3, "fn 0", f"{word} / : #0 3")
            self.check(make(num(3), rec("f", "x", X)), "#1", 3, "rec 1", f"{word} / : 3 #0")
            self.check(make(ODD, X), "#2", 3, "odd 0", "name 1", f"{word} / : #0 #1")

    def test_a_sum_that_waits_makes_the_one_above_wait(self):
        self.check(
            plus(minus(num(5), GAP), less(num(1), num(2))), "#2", 6, "gap 0.1", "minus 0 : 5 #0", "plus / : #1 yes")
        self.check(
            less(plus(num(1), num(2)), plus(GAP, num(4))), "#2", 6, "gap 1.0", "plus 1 : #0 4", "less / : 3 #1")


class LetTest(ByHandTest):
    def test_never_once_and_twice(self):
        self.check(let("x", num(5), num(7)), "7", 3)
        self.check(let("x", num(5), X), "5", 3)
        self.check(let("x", num(5), plus(X, X)), "10", 5)
        self.check(let("x", GAP, num(7)), "7", 2, "gap 0")
        self.check(let("x", GAP, X), "#0", 2, "gap 0")
        self.check(let("x", GAP, plus(X, X)), "#1", 4, "gap 0", "plus 1 : #0 #0")

    def test_the_first_part_is_come_to_though_nothing_uses_it(self):
        self.check(let("x", ODD, YES), "yes", 3, "odd 0")
        self.check(let("x", plus(YES, GAP), NO), "no", 4, "gap 0.1", "plus 0 : yes #0")

    def test_the_name_is_not_bound_in_the_first_part(self):
        self.check(let("x", X, X), "#0", 3, "name 0")
        self.check(let("x", num(1), let("x", plus(X, num(1)), X)), "2", 7)
        self.check(let("x", num(1), let("x", GAP, num(0))), "0", 4, "gap 1.0 : : x=1")

    def test_one_binding_within_another(self):
        self.check(let("x", num(1), let("x", num(2), X)), "2", 5)
        self.check(let("x", num(1), let("y", num(2), X)), "1", 5)
        self.check(let("x", num(1), plus(let("x", num(2), X), X)), "3", 7)
        self.check(let("x", num(1), let("y", num(2), let("x", num(3), minus(X, Y)))), "1", 9)

    def test_a_free_name_beside_a_bound_one(self):
        self.check(let("x", num(1), Y), "#0", 3, "name 1")
        self.check(let("x", num(1), plus(X, Y)), "#1", 5, "name 1.1", "plus 1 : 1 #0")
        self.check(plus(let("x", num(1), X), X), "#1", 5, "name 1", "plus / : 1 #0")


class IfTest(ByHandTest):
    def test_by_a_truth(self):
        self.check(when(YES, num(1), num(2)), "1", 3)
        self.check(when(NO, num(1), num(2)), "2", 3)
        self.check(when(less(num(1), num(2)), GAP, ODD), "#0", 4, "gap 1")
        self.check(when(less(num(2), num(1)), GAP, ODD), "#0", 5, "odd 2")

    def test_by_a_gap(self):
        self.check(when(GAP, num(1), num(2)), "#1", 1, "gap 0", "if / : #0")
        self.check(when(GAP, GAP, ODD), "#1", 1, "gap 0", "if / : #0")
        self.check(when(less(GAP, num(1)), YES, NO), "#2", 3, "gap 0.0", "less 0 : #0 1", "if / : #1")

    def test_by_what_is_no_truth(self):
        self.check(when(num(1), YES, NO), "#0", 2, "if / : 1")
        self.check(when(num(0), YES, NO), "#0", 2, "if / : 0")
        self.check(when(SAME, YES, NO), "#1", 2, "fn 0", "if / : #0")
        self.check(when(X, YES, NO), "#1", 2, "name 0", "if / : #0")

    def test_around(self):
        self.check(
            let("x", num(1), when(GAP, X, num(2))), "#1", 3, "gap 1.0 : : x=1", "if 1 : #0 : x=1")
        self.check(
            let("x", num(1), let("x", YES, when(num(0), X, X))), "#0", 6, "if 1.1 : 0 : x=1 x=yes")
        self.check(let("x", num(1), when(YES, GAP, num(2))), "#0", 4, "gap 1.1 : : x=1")
        self.check(let("x", num(1), when(NO, num(2), GAP)), "#0", 4, "gap 1.2 : : x=1")


class CallTest(ByHandTest):
    def test_of_a_fn(self):
        self.check(call(fn("x", plus(X, num(1))), num(4)), "5", 6, "fn 0")
        self.check(call(fn("x", num(3)), num(4)), "3", 4, "fn 0")
        self.check(call(SAME, GAP), "#1", 3, "fn 0", "gap 1")
        self.check(call(fn("x", GAP), num(4)), "#1", 3, "fn 0", "gap 0.0 : : x=4")
        self.check(call(fn("x", Y), num(4)), "#1", 4, "fn 0", "name 0.0")

    def test_of_a_rec(self):
        self.check(call(rec("f", "x", X), num(4)), "4", 4, "rec 0")
        self.check(call(rec("f", "x", F), num(4)), "#0", 4, "rec 0")
        self.check(call(rec("f", "x", GAP), num(4)), "#1", 3, "rec 0", "gap 0.0 : : f=#0 x=4")
        self.check(call(rec("f", "x", SAME), num(4)), "#1", 4, "rec 0", "fn 0.0 : : f=#0 x=4")
        self.check(let("x", YES, call(rec("f", "y", X), num(4))), "yes", 6, "rec 1.0 : : x=yes")

    def test_of_a_rec_with_two_alike_names(self):
        self.check(call(rec("x", "x", X), num(4)), "4", 4, "rec 0")
        self.check(call(rec("x", "x", GAP), num(4)), "#1", 3, "rec 0", "gap 0.0 : : x=#0 x=4")

    def test_of_a_rec_until_a_test_ends_it(self):
        self.check(call(summing(num(0)), num(0)), "0", 8, "rec 0")
        self.check(call(summing(num(0)), num(2)), "3", 30, "rec 0")
        self.check(call(summing(num(100)), num(4)), "110", 52, "rec 0")
        self.check(
            call(summing(GAP), num(2)), "#3", 29, "rec 0", "gap 0.0.1 : : f=#0 n=0", "plus 0.0.2 : 1 #1",
            "plus 0.0.2 : 2 #2")
        self.check(
            call(summing(num(0)), GAP), "#3", 6, "rec 0", "gap 1", "less 0.0.0 : #1 1", "if 0.0 : #2 : f=#0 n=#1")

    def test_of_what_is_no_function(self):
        self.check(call(GAP, num(4)), "#1", 2, "gap 0", "call / : #0 4")
        self.check(call(GAP, GAP), "#2", 1, "gap 0", "gap 1", "call / : #0 #1")
        self.check(call(num(3), num(4)), "#0", 3, "call / : 3 4")
        self.check(call(YES, GAP), "#1", 2, "gap 1", "call / : yes #0")
        self.check(call(ODD, SAME), "#2", 3, "odd 0", "fn 1", "call / : #0 #1")
        self.check(call(X, num(4)), "#1", 3, "name 0", "call / : #0 4")
        self.check(call(call(GAP, num(1)), num(2)), "#2", 4, "gap 0.0", "call 0 : #0 1", "call / : #1 2")
        self.check(let("x", num(3), call(X, X)), "#0", 5, "call 1 : 3 3")

    def test_the_first_part_is_come_to_ahead_of_the_second(self):
        self.check(call(fn("x", GAP), ODD), "#2", 3, "fn 0", "odd 1", "gap 0.0 : : x=#1")
        self.check(
            call(call(fn("x", SAME), GAP), ODD), "#3", 6, "fn 0.0", "gap 0.1", "fn 0.0.0 : : x=#1", "odd 1")

    def test_of_what_a_let_bound(self):
        self.check(let("f", fn("x", plus(X, num(1))), call(F, num(4))), "5", 8, "fn 0")
        self.check(let("f", SAME, call(F, call(F, num(3)))), "3", 9, "fn 0")
        self.check(let("f", GAP, call(F, num(3))), "#1", 4, "gap 0", "call 1 : #0 3")
        self.check(let("f", SAME, call(F, F)), "#0", 6, "fn 0")

    def test_of_what_another_function_gave_back(self):
        self.check(
            call(call(fn("x", fn("y", minus(X, Y))), num(7)), num(2)), "5", 9, "fn 0.0", "fn 0.0.0 : : x=7")
        self.check(
            call(call(fn("f", fn("x", call(F, call(F, X)))), fn("n", plus(N, N))), num(3)), "12", 17,
            "fn 0.0", "fn 0.1", "fn 0.0.0 : : f=#1")
        self.check(call(when(YES, SAME, GAP), num(2)), "2", 6, "fn 0.1")
        self.check(
            let("g", fn("x", fn("y", GAP)), let("h", call(G, num(1)), call(call(G, num(2)), call(H, num(3))))), "#4",
            15, "fn 0", "fn 0.0 : : x=1", "fn 0.0 : : x=2", "gap 0.0.0 : : x=1 y=3", "gap 0.0.0 : : x=2 y=#3")

    def test_with_a_function(self):
        self.check(call(fn("f", call(F, num(2))), fn("x", plus(X, X))), "4", 9, "fn 0", "fn 1")
        self.check(
            call(fn("f", call(F, num(2))), GAP), "#2", 5, "fn 0", "gap 1", "call 0.0 : #1 2")

    def test_the_around_is_that_of_the_row_of_the_function(self):
        body = let("x", num(10), call(F, num(5)))
        self.check(
            let("x", num(1), let("f", fn("y", plus(X, Y)), body)), "6", 12, "fn 1.0 : : x=1")
        self.check(
            let("x", num(1), let("f", fn("y", GAP), body)), "#1", 9, "fn 1.0 : : x=1", "gap 1.0.0 : : x=1 y=5")
        self.check(
            let("x", num(1), let("f", rec("g", "y", GAP), body)), "#1", 9, "rec 1.0 : : x=1",
            "gap 1.0.0 : : x=1 g=#0 y=5")
        self.check(let("f", fn("y", X), let("x", num(1), call(F, num(2)))), "#1", 8, "fn 0", "name 0.0")

    def test_a_name_of_the_function_hides_one_around_it(self):
        self.check(let("x", num(1), call(SAME, num(2))), "2", 6, "fn 1.0 : : x=1")
        self.check(let("f", num(1), call(rec("f", "x", F), num(2))), "#0", 6, "rec 1.0 : : f=1")
        self.check(let("x", num(1), call(rec("x", "y", Y), num(2))), "2", 6, "rec 1.0 : : x=1")


class RowsTest(ByHandTest):
    def test_a_row_for_each_time_that_a_form_is_come_to(self):
        self.check(
            let("f", fn("x", GAP), plus(call(F, num(1)), call(F, num(2)))), "#3", 9, "fn 0", "gap 0.0 : : x=1",
            "gap 0.0 : : x=2", "plus 1 : #1 #2")
        self.check(
            let("f", fn("x", SAME), call(call(F, num(1)), call(F, num(2)))), "#2", 12, "fn 0", "fn 0.0 : : x=1",
            "fn 0.0 : : x=2")
        self.check(
            let("f", fn("x", less(X, YES)), call(fn("y", call(F, GAP)), call(F, num(1)))), "#4", 15, "fn 0",
            "fn 1.0 : : f=#0", "less 0.0 : 1 yes", "gap 1.0.0.1 : : f=#0 y=#2", "less 0.0 : #3 yes")

    def test_names_around_are_all_there_in_their_order(self):
        for last, word, steps in [(GAP, "gap", 0), (fn("y", GAP), "fn", 1), (rec("y", "y", GAP), "rec", 1)]:
            tree = let("x", num(1), let("y", GAP, let("x", YES, let("f", ODD, let("x", X, last)))))
            rows = ["gap 1.0 : : x=1", "odd 1.1.1.0", f"{word} 1.1.1.1.1 : : x=1 y=#0 x=yes f=#1 x=yes"]
            self.check(tree, "#2", 9 + steps, *rows)

    def test_no_around_in_rows_of_other_words(self):
        for word, last in [
            ("plus : yes 1", plus(YES, num(1))), ("minus : 2 no", minus(num(2), NO)), ("less : yes no", less(YES, NO)),
            ("call : 1 2", call(num(1), num(2))), ("odd", ODD), ("name", Y),
        ]:
            made = word.replace(" ", " 1.1 ", 1) if " " in word else f"{word} 1.1"
            self.check(let("x", num(1), let("x", num(2), last)), "#0", 4 + size(last), made)

    def test_all_words(self):
        self.check(
            ALL_WORDS, "#4", 7, "rec 0", "fn 1.0.0 : : f=#0", "gap 1.0.0.0 : : f=#0 y=yes", "odd 1.1", "plus 1 : #2 #3")
        self.check(
            let("f", ALL_WORDS[2][0], plus(call(F, num(8)), call(F, GAP))), "#5", 34, "rec 0",
            "gap 0.0.1 : : g=#0 n=6", "gap 1.1.1 : : f=#0", "less 0.0.0 : #2 7", "if 0.0 : #3 : g=#0 n=#2",
            "plus 1 : #1 #4")

    def test_left_ahead_of_right(self):
        for word, make in dict(OPERATIONS, call=call).items():
            self.check(
                make(make(ODD, GAP), make(X, num(1))), "#5", 6, "odd 0.0", "gap 0.1", f"{word} 0 : #0 #1", "name 1.0",
                f"{word} 1 : #3 1", f"{word} / : #2 #4")


class StepsTest(unittest.TestCase):
    def test_each_form_but_a_gap_counts(self):
        for form in ONE_OF_EACH:
            for beside in (GAP, YES):
                told = run(plus(form, beside))
                alone = run(form)
                self.assertEqual(told[2], 1 + alone[2] + (beside == YES), form)

    def test_the_trees_here_have_as_many(self):
        for last in (num(0), GAP):
            for many in range(20, 501):
                tree = of_steps(many, last)
                self.assertLessEqual(size(tree), 40)
                self.assertEqual(run(tree)[2], many)

    def test_just_500_are_told_and_501_are_not(self):
        for last in (num(0), GAP, ODD):
            told = run(of_steps(500, last))
            self.assertEqual(told[2], 500)
            self.assertIn("rec", [made[0] for made in told[1]])
            for many in (501, 502, 503, 510, 600, 1000):
                with self.assertRaises(TooLong):
                    run(of_steps(many, last))

    def test_gaps_behind_the_last_step(self):
        tree = of_steps(499)
        told = run(plus(tree, GAP))
        self.assertEqual((told[2], told[1][-2][0]), (500, "gap"))
        self.assertEqual(run(when(GAP, tree, tree))[2], 1)
        with self.assertRaises(TooLong):
            run(plus(tree, num(0)))
        with self.assertRaises(TooLong):
            run(plus(plus(tree, GAP), GAP))

    def test_runs_that_never_end(self):
        itself = fn("x", call(X, X))
        for tree in [
            call(rec("f", "x", call(F, X)), num(0)),
            call(rec("f", "x", call(F, plus(X, num(1)))), num(0)),
            call(rec("f", "x", plus(GAP, call(F, X))), GAP),
            call(rec("f", "x", call(call(F, X), GAP)), YES),
            call(rec("f", "x", when(call(F, X), GAP, GAP)), ODD),
            call(rec("f", "x", let("y", call(F, X), num(1))), ODD),
            call(itself, itself),
            let("g", itself, plus(num(1), call(G, G))),
            let("x", call(itself, itself), num(1)),
        ]:
            with self.assertRaises(TooLong):
                run(tree)

    def test_what_is_not_come_to_does_not_count(self):
        forever = call(rec("f", "x", call(F, X)), num(0))
        for tree in [fn("x", forever), rec("f", "x", forever), when(GAP, forever, forever), when(YES, YES, forever),
                     when(NO, forever, NO), when(num(1), forever, forever)]:
            self.assertLessEqual(run(tree)[2], 3)

    def test_the_refusal(self):
        with self.assertRaises(TooLong) as caught:
            run(of_steps(501))
        self.assertIsInstance(caught.exception, GapError)

    def test_a_refusal_leaves_nothing_behind(self):
        told = run(of_steps(500))
        with self.assertRaises(TooLong):
            run(of_steps(501))
        self.assertEqual(run(of_steps(500)), told)
        self.assertEqual(run(num(1)), record("1", 1))


def nested(many, make, last=GAP):
    tree = last
    for number in range(many):
        tree = make(tree)
    return tree


class DeepTest(unittest.TestCase):
    def test_calls_nested_deep(self):
        with few_calls(40):
            told = run(of_steps(500))
            waits = run(of_steps(500, GAP))
        self.assertEqual(told[0], ("num", 44 * 45 // 2))
        sums = [made[2][0][1] for made in waits[1] if made[0] == "plus" and made[2][0][0] == "num"]
        self.assertEqual(sums, list(range(1, 45)))

    def test_calls_nested_as_deep_as_may_be(self):
        # Each turn waits for what comes of the next one.
        body = fn("x", plus(GAP, call(call(X, X), GAP)))
        with few_calls(40), self.assertRaises(TooLong):
            run(call(body, body))
        with few_calls(40), self.assertRaises(TooLong):
            run(call(rec("f", "x", call(F, X)), num(0)))

    def test_forms_nested_deep(self):
        cases = {
            "left": lambda tree: plus(tree, GAP),
            "right": lambda tree: plus(GAP, tree),
            "call": lambda tree: call(GAP, tree),
            "called": lambda tree: call(tree, GAP),
            "if": lambda tree: when(tree, GAP, GAP),
            "then": lambda tree: when(YES, tree, GAP),
            "let": lambda tree: let("x", tree, GAP),
            "in": lambda tree: let("x", GAP, tree),
        }
        many_steps = {"then": 2}
        for word, make in cases.items():
            for many in (70, 124, 250):
                with self.subTest(word=word, many=many):
                    with few_calls(40):
                        told = run(nested(many, make))
                    self.assertEqual(told[2], many * many_steps.get(word, 1))

    def test_500_forms_deep_with_gaps_beside(self):
        tree = nested(499, lambda part: plus(GAP, part), num(1))
        with few_calls(40):
            told = run(tree)
        self.assertEqual(told[2], 500)
        self.assertEqual([made[0] for made in told[1]], ["gap"] * 499 + ["plus"] * 499)
        self.assertEqual(told[1][499][2], [("row", 498), ("num", 1)])
        for number in range(500, 998):
            self.assertEqual(told[1][number][2], [("row", 997 - number), ("row", number - 1)])
        with few_calls(40), self.assertRaises(TooLong):
            run(plus(GAP, tree))

    def test_functions_nested_deep(self):
        tree = nested(70, lambda part: fn("x", part))
        for number in range(70):
            tree = call(tree, num(number))
        told = run(tree)
        self.assertEqual(told[2], 3 * 70)
        self.assertEqual(told[1][-1][3], [("x", ("num", number)) for number in range(70)])


class OwnListsTest(unittest.TestCase):
    trees = busy_trees(31, 60, 3, 30) + grown_trees(31, 60, 30) + [ALL_WORDS, of_steps(500, GAP)]

    def told(self, tree):
        try:
            return run(tree)
        except TooLong:
            return record("0", 0)

    def test_the_tree_is_not_changed(self):
        for tree in self.trees:
            kept = copy.deepcopy(tree)
            self.told(tree)
            self.assertEqual(tree, kept)

    def test_no_list_is_there_twice(self):
        told = [self.told(tree) for tree in self.trees for turn in range(2)]
        lists = [one for each in told for one in lists_in(each)]
        self.assertEqual(len(lists), len({id(one) for one in lists}))

    def test_a_list_that_was_told_and_then_changed(self):
        for tree in self.trees:
            first, second = self.told(tree), self.told(tree)
            kept = copy.deepcopy(second)
            for one in lists_in(first):
                one.append(("x", ("num", 99)))
                one[0] = "other"
            self.assertEqual(second, kept)
            self.assertEqual(self.told(tree), kept)


if __name__ == "__main__":
    unittest.main()
