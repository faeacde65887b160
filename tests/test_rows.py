import copy
import itertools
import unittest

from gapscribe.rows import arounds_at, clashes, is_finished
from tests.samples import check_own_lists

WORDS = ["gap", "odd", "name", "plus", "minus", "less", "if", "call", "fn", "rec"]
WAITING = ["gap", "odd", "name", "plus", "minus", "less", "if", "call"]
NUMBERS = [("num", 0), ("num", 1), ("num", 7), ("num", -3), ("num", 10 ** 300)]
TRUTHS = [("truth", True), ("truth", False)]


def row(word, operands=(), around=(), place=(0,)):
    return (word, place, list(operands), list(around))


# One row of each word ahead, without regard to how it came there; the rows asked of come behind these.
AHEAD = [
    row("gap", [], [("x", ("num", 3))]),
    row("odd"),
    row("name"),
    row("plus", [("row", 0), ("num", 1)]),
    row("minus", [("num", 1), ("row", 1)]),
    row("less", [("row", 0), ("row", 2)]),
    row("if", [("row", 0)], [("x", ("truth", True))]),
    row("call", [("row", 0), ("truth", True)]),
    row("fn", [], [("x", ("num", 3)), ("x", ("row", 0))]),
    row("rec"),
]
ROW_OF = {told[0]: ("row", number) for number, told in enumerate(AHEAD)}
FUNCTIONS = [ROW_OF["fn"], ROW_OF["rec"]]
UNFINISHED = [ROW_OF[word] for word in WAITING]
THINGS = NUMBERS + TRUTHS + FUNCTIONS + UNFINISHED


class FinishedTest(unittest.TestCase):
    def test_each_thing(self):
        self.assertEqual(set(ROW_OF), set(WORDS))
        for thing in NUMBERS + TRUTHS + FUNCTIONS:
            self.assertIs(is_finished(thing, AHEAD), True, thing)
        for thing in UNFINISHED:
            self.assertIs(is_finished(thing, AHEAD), False, thing)

    def test_without_rows(self):
        for thing in NUMBERS + TRUTHS:
            self.assertIs(is_finished(thing, []), True)

    def test_the_row_of_that_number(self):
        for number, word in enumerate(WORDS * 3):
            rows = [row(other) for other in WORDS * 3]
            self.assertIs(is_finished(("row", number), rows), word in ("fn", "rec"))
            self.assertIs(is_finished(("num", number), rows), True)

    def test_what_waits_for_a_function_is_not_one(self):
        rows = [row("fn"), row("if", [("row", 0)]), row("call", [("row", 0), ("row", 0)])]
        self.assertEqual([is_finished(("row", number), rows) for number in range(3)], [True, False, False])


class ClashesTest(unittest.TestCase):
    def told(self, word, operands):
        """Whether a row with these operands, behind the ones ahead, clashes."""
        numbers = clashes(AHEAD + [row(word, operands)])
        self.assertIn(numbers, ([], [len(AHEAD)]))
        return numbers != []

    def test_rows_ahead_do_not_clash(self):
        self.assertEqual(clashes(AHEAD), [])
        self.assertEqual(clashes([]), [])

    def test_plus_minus_less(self):
        right = NUMBERS + UNFINISHED
        for word in ("plus", "minus", "less"):
            for first, second in itertools.product(THINGS, repeat=2):
                self.assertEqual(self.told(word, [first, second]), first not in right or second not in right)

    def test_if(self):
        for thing in THINGS:
            self.assertEqual(self.told("if", [thing]), thing in NUMBERS + FUNCTIONS)

    def test_call(self):
        for first, second in itertools.product(THINGS, repeat=2):
            self.assertEqual(self.told("call", [first, second]), first in NUMBERS + TRUTHS)

    def test_other_rows_never_do(self):
        for word in ("gap", "fn", "rec", "odd", "name"):
            self.assertFalse(self.told(word, []))
            rows = AHEAD + [row(word, [], [("x", thing) for thing in THINGS])]
            self.assertEqual(clashes(rows), [])

    def test_by_hand(self):
        for word, operands, clash in [
            ("plus", [("truth", True), ("row", 0)], True),
            ("plus", [("row", 0), ("truth", False)], True),
            ("plus", [("row", 0), ("row", 8)], True),
            ("minus", [("row", 9), ("row", 0)], True),
            ("less", [("num", 1), ("row", 0)], False),
            ("less", [("row", 3), ("row", 7)], False),
            ("if", [("num", 1)], True),
            ("if", [("row", 9)], True),
            ("if", [("row", 6)], False),
            ("if", [("truth", False)], False),
            ("call", [("num", 0), ("row", 0)], True),
            ("call", [("truth", True), ("row", 8)], True),
            ("call", [("row", 0), ("num", 0)], False),
            ("call", [("row", 0), ("row", 8)], False),
            ("call", [("row", 7), ("truth", True)], False),
        ]:
            with self.subTest(word=word, operands=operands):
                self.assertEqual(self.told(word, operands), clash)

    def test_what_is_around_does_not_clash(self):
        for thing in THINGS:
            self.assertEqual(clashes(AHEAD + [row("if", [("row", 0)], [("x", thing), ("y", thing)])]), [])

    def test_numbers_rise(self):
        number = ("num", 1)
        bad = [row("plus", [("truth", True), ("row", 0)]), row("if", [number]), row("call", [number, number])]
        good = [row("plus", [("num", 1), ("row", 0)]), row("if", [("row", 0)]), row("gap"), row("fn")]
        for length in range(5):
            for shape in itertools.product((False, True), repeat=length):
                rows = AHEAD + [(bad if wrong else good)[at % 3] for at, wrong in enumerate(shape)]
                told = clashes(rows)
                self.assertEqual(told, [len(AHEAD) + at for at, wrong in enumerate(shape) if wrong])
                self.assertIs(type(told), list)
        self.assertEqual(clashes(AHEAD + bad * 3), list(range(10, 19)))

    def test_many_rows(self):
        rows = [row("gap")] + [row("plus", [("row", number), ("num", number)]) for number in range(1999)]
        self.assertEqual(clashes(rows), [])
        rows[1000] = row("fn")
        self.assertEqual(clashes(rows), [1001])
        rows[1000] = row("if", [("num", 2)])
        self.assertEqual(clashes(rows), [1000])

    def test_the_list_is_the_askers_own(self):
        rows = AHEAD + [row("if", [("num", 1)]), row("if", [("num", 2)])]
        check_own_lists(self, lambda: clashes(rows), [10, 11])

    def test_rows_are_not_changed_and_may_be_changed_behind(self):
        rows = AHEAD + [row("if", [("num", 1)])]
        kept = copy.deepcopy(rows)
        told = clashes(rows)
        self.assertIs(is_finished(("row", 8), rows), True)
        self.assertEqual(rows, kept)
        rows[10][2][0] = ("truth", True)
        self.assertEqual(told, [10])
        self.assertEqual(clashes(rows), [])
        rows[8] = row("gap")
        self.assertIs(is_finished(("row", 8), rows), False)


# Rows of several gaps, one of them come to several times, with rows of other words at the same places between.
SEVERAL = [
    ("fn", (0,), [], []),
    ("gap", (1,), [], []),
    ("gap", (0, 0), [], [("x", ("num", 1))]),
    ("gap", (0, 1), [], [("x", ("num", 2))]),
    ("plus", (0, 0), [("row", 1), ("num", 1)], []),
    ("if", (0, 0), [("row", 1)], [("x", ("num", 3))]),
    ("rec", (0, 0), [], [("x", ("num", 4))]),
    ("gap", (0, 0), [], [("x", ("row", 4)), ("y", ("truth", True)), ("x", ("num", 5))]),
    ("gap", (0,), [], [("x", ("num", 6))]),
    ("gap", (0, 0, 0), [], [("x", ("num", 7))]),
    ("gap", (0, 0), [], [("x", ("num", 1))]),
]
TOLD = {
    (0, 0): [
        [("x", ("num", 1))], [("x", ("row", 4)), ("y", ("truth", True)), ("x", ("num", 5))], [("x", ("num", 1))],
    ],
    (0, 1): [[("x", ("num", 2))]],
    (0,): [[("x", ("num", 6))]],
    (0, 0, 0): [[("x", ("num", 7))]],
    (1,): [[]],
    (): [],
    (2,): [],
    (0, 2): [],
    (1, 0): [],
}


def record(rows):
    return (("row", 1), rows, 12)


class AroundsTest(unittest.TestCase):
    def test_by_hand(self):
        for place, arounds in TOLD.items():
            with self.subTest(place=place):
                told = arounds_at(record(SEVERAL), place)
                self.assertEqual(told, arounds)
                self.assertIs(type(told), list)
                for around in told:
                    self.assertIs(type(around), list)

    def test_no_rows(self):
        for place in TOLD:
            self.assertEqual(arounds_at((("num", 3), [], 1), place), [])

    def test_a_gap_at_the_top(self):
        self.assertEqual(arounds_at((("row", 0), [("gap", (), [], [])], 0), ()), [[]])

    def test_each_other_word(self):
        for word in WORDS[1:]:
            rows = [(word, (0,), [], [("x", ("num", 1))])]
            self.assertEqual(arounds_at(record(rows), (0,)), [])
            self.assertEqual(arounds_at(record(rows + [("gap", (0,), [], [])]), (0,)), [[]])

    def test_in_the_order_of_the_rows(self):
        rows = [("gap", (number % 3,), [], [("x", ("num", number * 7 % 11))]) for number in range(30)]
        for place in range(3):
            self.assertEqual(
                arounds_at(record(rows), (place,)), [rows[number][3] for number in range(place, 30, 3)])

    def test_what_is_told_is_the_askers_own(self):
        kept = copy.deepcopy(SEVERAL)
        handed = record(SEVERAL)
        for place, arounds in TOLD.items():
            first, second = arounds_at(handed, place), arounds_at(handed, place)
            self.assertIsNot(first, second)
            for around in first:
                around.append(("z", ("num", 9)))
                around[0] = ("z", ("num", 8))
            first.append("more")
            self.assertEqual(second, arounds)
            self.assertEqual(handed, record(kept))
            self.assertEqual(arounds_at(handed, place), arounds)

    def test_two_arounds_told_at_once_are_two_lists(self):
        shared = [("x", ("num", 1))]
        rows = [("gap", (0,), [], shared), ("gap", (0,), [], shared)]
        first, second = arounds_at(record(rows), (0,))
        self.assertIsNot(first, second)
        self.assertIsNot(first, shared)
        self.assertIsNot(second, shared)
        first.append(("y", ("num", 2)))
        self.assertEqual((second, shared), ([("x", ("num", 1))], [("x", ("num", 1))]))

    def test_changed_after_it_was_handed_in(self):
        rows = copy.deepcopy(SEVERAL)
        told = arounds_at(record(rows), (0, 0))
        rows[2][3].append(("z", ("num", 9)))
        rows[7][3].clear()
        rows.pop()
        self.assertEqual(told, TOLD[(0, 0)])
        self.assertEqual(arounds_at(record(rows), (0, 0)), [[("x", ("num", 1)), ("z", ("num", 9))], []])


if __name__ == "__main__":
    unittest.main()
