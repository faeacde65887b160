import unittest

from gapscribe.forms import is_figures, is_name, is_odd

SMALL = "abcdefghijklmnopqrstuvwxyz"
NO_NAMES = ["let", "in", "if", "then", "else", "fn", "rec", "yes", "no"]
NO_TEXTS = [
    None, 0, 1, -1, 7, 1.5, True, False, (), ("a",), ("a", "b"), [], ["a"], {}, {"a": 1}, {"a"},
    b"a", object(), str, len,
]


class TextTest(unittest.TestCase):
    """Each answer is True or False itself, not only something like it."""

    def each(self, asked, things, answer):
        for thing in things:
            with self.subTest(thing=thing):
                self.assertIs(asked(thing), answer)


class NameTest(TextTest):
    def test_length(self):
        self.each(is_name, ["a", "ab", "abcdefg", "abcdefgh", "________"], True)
        self.each(is_name, ["", "abcdefghi", "_________", "a" * 60], False)

    def test_each_sign(self):
        for sign in SMALL + "_":
            self.each(is_name, [sign, sign + "q", "q" + sign, "q" + sign + "q", sign * 8], True)

    def test_each_other_sign_at_each_place(self):
        others = [chr(code) for code in range(256) if chr(code) not in SMALL + "_"]
        for sign in others + ["\u0430", "\u0660", "\u2028", "\uff41", "\U0001d41a"]:
            self.each(is_name, [sign, sign + "ab", "a" + sign + "b", "ab" + sign], False)

    def test_line_end_at_the_end(self):
        self.each(is_name, ["a\n", "abcdefg\n", "abcdefgh\n", "a\r\n", "\na"], False)

    def test_words_that_no_name_may_be(self):
        self.each(is_name, NO_NAMES, False)

    def test_a_sign_more_or_less(self):
        for word in NO_NAMES:
            near = [word + "s", word + "_", "_" + word, "s" + word, word[1:], word[:-1]]
            self.each(is_name, near, True)

    def test_such_words_in_great_letters(self):
        for word in NO_NAMES:
            self.each(is_name, [word.upper(), word[0].upper() + word[1:]], False)

    def test_words_of_forms_that_are_names(self):
        self.each(is_name, ["gap", "odd", "num", "truth", "name", "plus", "minus", "less", "call"], True)

    def test_what_is_no_text(self):
        self.each(is_name, NO_TEXTS, False)


class OddTest(TextTest):
    def test_length(self):
        self.each(is_odd, ["*", "!" * 2, "A" * 59, "!" * 60, "a" * 60, "9" * 60], True)
        self.each(is_odd, ["", "!" * 61, "A" * 61, "a" * 61, "9" * 61], False)

    def test_each_sign(self):
        for code in range(ord("!"), ord("~") + 1):
            sign = chr(code)
            if sign not in "()":
                self.each(is_odd, ["*" + sign, sign + "*", "*" + sign + "*", sign * 9 + "*"], True)

    def test_each_sign_by_itself(self):
        for code in range(ord("!"), ord("~") + 1):
            sign = chr(code)
            other = sign in SMALL + "_0123456789?+-<()"
            self.each(is_odd, [sign], not other)

    def test_brackets(self):
        for sign in "()":
            self.each(is_odd, [sign, "*" + sign, sign + "*", "*" + sign + "*", "*" * 59 + sign], False)

    def test_signs_beyond_the_bounds(self):
        outer = [" ", "\t", "\n", "\r", "\x00", "\x1f", "\x7f", "\x80", "\xa0", "\xe4", "\u0660", "\u2028"]
        for sign in outer:
            self.each(is_odd, [sign, "*" + sign, sign + "*", "*" + sign + "*"], False)

    def test_names(self):
        self.each(is_odd, ["a", "x", "_", "abcdefgh", "in_", "lets", "gap", "num"], False)

    def test_too_long_for_names(self):
        self.each(is_odd, ["abcdefghi", "_________"], True)

    def test_words_that_no_odd_text_is(self):
        self.each(is_odd, ["let", "if", "fn", "rec", "yes", "no", "?", "+", "-", "<"], False)

    def test_near_such_words(self):
        near = ["Let", "IF", "Fn", "REC", "Yes", "No", "??", "++", "--", "<<", "+1", "-1", "<=", "?x"]
        self.each(is_odd, near, True)

    def test_words_within_forms(self):
        self.each(is_odd, ["then", "else", "in", "=", "=>", "x+1", ">", "*"], True)

    def test_numbers(self):
        numbers = [str(figure) for figure in range(10)]
        numbers += ["10", "42", "100", "9" * 18, "1" + "0" * 17, "123456789012345678"]
        self.each(is_odd, numbers, False)

    def test_not_written_as_a_number(self):
        self.each(is_odd, ["00", "007", "01", "0" * 18, "0" + "9" * 17, "9" * 19, "1" + "0" * 18, "0" * 19], True)
        self.each(is_odd, ["1x", "x1", "1.", "1_0", "+0", "-0", "0x0"], True)

    def test_figures_with_another_sign(self):
        for code in range(ord("!"), ord("~") + 1):
            sign = chr(code)
            if sign not in "()0123456789":
                self.each(is_odd, ["1" + sign, sign + "1", "1" + sign + "1"], True)

    def test_what_is_no_text(self):
        self.each(is_odd, NO_TEXTS, False)


class FiguresTest(TextTest):
    def test_written_as_a_number(self):
        self.each(is_figures, ["0", "7", "10", "9" * 18], True)
        self.each(is_figures, ["", "00", "07", "9" * 19, "1 ", "1\n", "+1", "-1", "1_0", "\u0661", "\xb2", "x"], False)


if __name__ == "__main__":
    unittest.main()
