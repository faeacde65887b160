"""Forms: tuples (word, note, parts), what may stand in them, and the plain ones of each word."""

from gapscribe.errors import NoForm

GAP = ("gap", None, ())

PARTS_OF_WORDS = {
    "gap": 0,
    "odd": 0,
    "num": 0,
    "truth": 0,
    "name": 0,
    "plus": 2,
    "minus": 2,
    "less": 2,
    "call": 2,
    "if": 3,
    "fn": 1,
    "rec": 1,
    "let": 2,
}

NAME_SIGNS = "abcdefghijklmnopqrstuvwxyz_"
FIGURES = "0123456789"
WORDS_NO_NAMES = ("let", "in", "if", "then", "else", "fn", "rec", "yes", "no")
WORDS_NOT_ODD = ("let", "if", "fn", "rec", "yes", "no", "?", "+", "-", "<")


def is_whole(thing):
    # Python counts True and False among the ints; here they are no numbers.
    return isinstance(thing, int) and not isinstance(thing, bool)


def is_name(thing):
    if not isinstance(thing, str) or not 1 <= len(thing) <= 8:
        return False
    return all([sign in NAME_SIGNS for sign in thing]) and thing not in WORDS_NO_NAMES


def is_figures(text):
    # Python's own test for digits would let in those of other scripts.
    if not 1 <= len(text) <= 18 or not all([sign in FIGURES for sign in text]):
        return False
    return text == "0" or text[0] != "0"


def is_odd_sign(sign):
    return "!" <= sign <= "~" and sign not in "()"


def is_odd(thing):
    if not isinstance(thing, str) or not 1 <= len(thing) <= 60:
        return False
    if not all([is_odd_sign(sign) for sign in thing]):
        return False
    return not is_name(thing) and thing not in WORDS_NOT_ODD and not is_figures(thing)


def is_word(thing):
    # What is no text may have no hash, and so could not be looked up.
    return isinstance(thing, str) and thing in PARTS_OF_WORDS


def is_two_names(thing):
    return isinstance(thing, tuple) and len(thing) == 2 and is_name(thing[0]) and is_name(thing[1])


def is_note(word, note):
    if word == "odd":
        return is_odd(note)
    if word == "num":
        return is_whole(note) and 0 <= note < 10 ** 18
    if word == "truth":
        return note is True or note is False
    if word in ("name", "fn", "let"):
        return is_name(note)
    if word == "rec":
        return is_two_names(note)
    return note is None


def is_top_of_form(thing):
    if not isinstance(thing, tuple) or len(thing) != 3:
        return False
    if not is_word(thing[0]) or not is_note(thing[0], thing[1]):
        return False
    return isinstance(thing[2], tuple) and len(thing[2]) == PARTS_OF_WORDS[thing[0]]


def is_form(thing):
    # A row of what is still to be looked at, as a tree may be nested deeper than calls may be.
    waiting = [thing]
    while waiting:
        top = waiting.pop()
        if not is_top_of_form(top):
            return False
        waiting.extend(top[2])
    return True


def many_parts(word):
    if not is_word(word):
        raise NoForm("no form has this word")
    return PARTS_OF_WORDS[word]


def bare(word, note):
    many = many_parts(word)
    if not is_note(word, note):
        raise NoForm("no form of this word has this note")
    return (word, note, (GAP,) * many)
