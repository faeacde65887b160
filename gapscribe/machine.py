"""The machine that comes to forms and makes rows: what a run and going on with a record share."""

from gapscribe.errors import TooLong
from gapscribe.places import placed_forms
from gapscribe.rows import is_finished
from gapscribe.scopes import names_bound

MOST_STEPS = 500

# The parts that a form waits for, the last one first: what is waiting is taken from the end.
PARTS_AWAITED = {
    "plus": (1, 0),
    "minus": (1, 0),
    "less": (1, 0),
    "call": (1, 0),
    "if": (0,),
    "let": (0,),
}

WORDS_WITH_AROUND = ("gap", "fn", "rec", "if")


def are_numbers(things):
    return all([thing[0] == "num" for thing in things])


def reckoned(word, left, right):
    if word == "plus":
        return ("num", left + right)
    if word == "minus":
        return ("num", left - right)
    return ("truth", left < right)


class Machine:
    def __init__(self, tree, steps):
        self.forms = dict(placed_forms(tree))
        self.rows = []
        # Forms may be come to deeper within one another than calls may be nested, so what is still to be done
        # stands in one list, and the things that the forms above still wait for in another.
        self.waiting = []
        self.things = []
        self.steps = 0
        self.make_steps(steps)

    def make_steps(self, many):
        self.steps += many
        if self.steps > MOST_STEPS:
            raise TooLong("a run has at most 500 steps")

    def new_row(self, word, place, operands, around):
        kept = list(around) if word in WORDS_WITH_AROUND else []
        self.rows.append((word, place, list(operands), kept))
        return ("row", len(self.rows) - 1)

    def thing_of_form(self, place, around):
        self.waiting.append((place, around, False))
        return self.thing_at_the_end()

    def thing_of_parts(self, place, operands, around):
        self.things.extend(operands)
        self.waiting.append((place, around, True))
        return self.thing_at_the_end()

    def thing_at_the_end(self):
        while self.waiting:
            place, around, parts_came = self.waiting.pop()
            if parts_came:
                self.go_further(place, around)
            else:
                self.come_to(place, around)
        return self.things.pop()

    def come_to(self, place, around):
        word, note = self.forms[place][:2]
        if word != "gap":
            self.make_steps(1)
        if word in PARTS_AWAITED:
            self.waiting.append((place, around, True))
            self.waiting.extend([(place + (number,), around, False) for number in PARTS_AWAITED[word]])
        else:
            self.things.append(self.thing_of_leaf(word, note, place, around))

    def thing_of_leaf(self, word, note, place, around):
        if word in ("num", "truth"):
            return (word, note)
        # Of several pairs of one name a dict keeps the last one.
        bound = dict(around)
        if word == "name" and note in bound:
            return bound[note]
        return self.new_row(word, place, [], around)

    def go_further(self, place, around):
        word = self.forms[place][0]
        operands = self.taken_things(len(PARTS_AWAITED[word]))
        if word == "let":
            self.go_within(place, 1, around, operands)
        elif word == "if" and operands[0][0] == "truth":
            self.go_within(place, 1 if operands[0][1] else 2, around, [])
        elif word == "call" and self.is_function(operands[0]):
            self.call(operands)
        elif word in ("plus", "minus", "less") and are_numbers(operands):
            self.things.append(reckoned(word, operands[0][1], operands[1][1]))
        else:
            self.things.append(self.new_row(word, place, operands, around))

    def taken_things(self, many):
        taken = self.things[-many:]
        self.things = self.things[:-many]
        return taken

    def is_function(self, thing):
        return thing[0] == "row" and is_finished(thing, self.rows)

    def call(self, operands):
        row = self.rows[operands[0][1]]
        # A rec binds itself too, ahead of what it is called with.
        self.go_within(row[1], 0, row[3], operands if row[0] == "rec" else operands[1:])

    def go_within(self, place, number, around, things):
        names = names_bound(self.forms[place], number)
        self.waiting.append((place + (number,), around + list(zip(names, things)), False))
