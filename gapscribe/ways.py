"""Ways: a row of deeds done to a tree, moves from place to place, and rows of deeds from tree to tree."""

from gapscribe.deeds import Cut, Put
from gapscribe.places import form_at, placed_forms, with_at


def behind(tree, row):
    made = tree
    for place, deed in row:
        made = with_at(made, place, deed.done(form_at(made, place)))
    return made


def many_shared(place, other):
    many = 0
    for number, beside in zip(place, other):
        if number != beside:
            return many
        many += 1
    return many


def way(place, other):
    many = many_shared(place, other)
    return ["up"] * (len(place) - many) + list(other[many:])


def same_top(form, other):
    return form[0] == other[0] and form[1] == other[1]


def pairs_met(tree, other):
    # Beneath another word or note nothing of the one tree can stay, so no further pairs are met there.
    told = []
    waiting = [((), tree, other)]
    while waiting:
        place, form, aim = waiting.pop()
        told.append((place, form, aim))
        if same_top(form, aim):
            for number in range(len(aim[2])):
                waiting.append((place + (number,), form[2][number], aim[2][number]))
    return told


def forms_to_put(form):
    return [pair for pair in placed_forms(form) if pair[1][0] != "gap"]


def puts_of(place, form):
    return [(place + beneath, Put(part[0], part[1])) for beneath, part in forms_to_put(form)]


def row_at(place, form, aim, rows):
    if form[0] == "gap":
        return puts_of(place, aim)
    if same_top(form, aim):
        kept = []
        for number in range(len(aim[2])):
            kept.extend(rows[place + (number,)])
        # One Cut takes away many parts, so that to begin anew may be shorter.
        if len(kept) <= 1 + len(forms_to_put(aim)):
            return kept
    return [(place, Cut())] + puts_of(place, aim)


def row_to(tree, other):
    rows = {}
    # Backwards, as a form is met ahead of its parts, and its row is made of theirs.
    for place, form, aim in reversed(pairs_met(tree, other)):
        rows[place] = row_at(place, form, aim, rows)
    return rows[()]
