import unittest

from gapscribe.kinds import is_function, shown_kind

NUM = ("num",)
TRUTH = ("truth",)


def to(first, second):
    return ("to", first, second)


def unknown(number):
    return ("any", number)


SHOWN = [
    (NUM, "num"),
    (TRUTH, "truth"),
    (unknown(0), "any0"),
    (unknown(7), "any7"),
    (unknown(10), "any10"),
    (unknown(42), "any42"),
    (unknown(123456789), "any123456789"),
    (unknown(10 ** 30), "any1" + "0" * 30),
    (to(NUM, TRUTH), "num to truth"),
    (to(TRUTH, NUM), "truth to num"),
    (to(unknown(0), unknown(0)), "any0 to any0"),
    (to(unknown(12), unknown(3)), "any12 to any3"),
    (to(NUM, to(TRUTH, unknown(1))), "num to truth to any1"),
    (to(to(NUM, TRUTH), unknown(1)), "(num to truth) to any1"),
    (to(to(NUM, TRUTH), to(TRUTH, NUM)), "(num to truth) to truth to num"),
    (to(NUM, to(NUM, to(NUM, NUM))), "num to num to num to num"),
    (to(to(to(NUM, TRUTH), unknown(0)), unknown(1)), "((num to truth) to any0) to any1"),
    (to(to(NUM, to(TRUTH, unknown(0))), unknown(1)), "(num to truth to any0) to any1"),
    (to(NUM, to(to(TRUTH, unknown(0)), unknown(1))), "num to (truth to any0) to any1"),
    (to(to(unknown(0), unknown(1)), to(to(unknown(1), unknown(2)), to(unknown(0), unknown(2)))),
     "(any0 to any1) to (any1 to any2) to any0 to any2"),
    (to(to(to(NUM, NUM), to(TRUTH, TRUTH)), to(to(NUM, TRUTH), to(TRUTH, NUM))),
     "((num to num) to truth to truth) to (num to truth) to truth to num"),
]


def shown(kind):
    """The kind as a text, by another way than the program's own."""
    if kind[0] != "to":
        return "".join(str(piece) for piece in kind)
    first = f"({shown(kind[1])})" if kind[1][0] == "to" else shown(kind[1])
    return f"{first} to {shown(kind[2])}"


class KindsTest(unittest.TestCase):
    def test_shown_by_hand(self):
        for kind, text in SHOWN:
            with self.subTest(kind=kind):
                self.assertEqual(shown_kind(kind), text)
                self.assertEqual(shown_kind(kind), text)
                self.assertIs(type(shown_kind(kind)), str)

    def test_shown_some_levels_deep(self):
        level = [NUM, TRUTH, unknown(0), unknown(15)]
        for turn in range(2):
            level = level + [to(first, second) for first in level for second in level]
        self.assertEqual(len(level), 420)
        for kind in level:
            self.assertEqual(shown_kind(kind), shown(kind))
            self.assertEqual(shown_kind(to(kind, NUM)), shown(to(kind, NUM)))
            self.assertEqual(shown_kind(to(NUM, kind)), shown(to(NUM, kind)))
        self.assertEqual(len({shown_kind(kind) for kind in level}), len(set(level)))

    def test_shown_many_levels_deep(self):
        left, right = NUM, NUM
        for many in range(1, 101):
            left, right = to(left, TRUTH), to(TRUTH, right)
            self.assertEqual(shown_kind(left), "(" * (many - 1) + "num to truth" + ") to truth" * (many - 1))
            self.assertEqual(shown_kind(right), "truth to " * many + "num")

    def test_is_function(self):
        for kind, text in SHOWN:
            with self.subTest(kind=kind):
                self.assertIs(is_function(kind), " to " in text)

    def test_each_plain_kind_is_no_function(self):
        for kind in (NUM, TRUTH, unknown(0), unknown(1), unknown(99)):
            self.assertIs(is_function(kind), False)
            for other in (NUM, TRUTH, unknown(0), to(NUM, NUM)):
                self.assertIs(is_function(to(kind, other)), True)
                self.assertIs(is_function(to(other, kind)), True)


if __name__ == "__main__":
    unittest.main()
