"""Looks: the kinds given and asked at each place of a tree, and the marks of what fits nowhere."""

from gapscribe.errors import TooBig
from gapscribe.forms import GAP
from gapscribe.places import form_at, placed_forms, with_at
from gapscribe.scopes import binding_at
from gapscribe.solve import fitted, kinds_in, kinds_told

MOST_FORMS = 40


def mark_of(tree, place, form, fits):
    if not fits:
        return "unlike"
    if form[0] == "odd":
        return "odd"
    if form[0] == "name" and binding_at(tree, place, form[1]) is None:
        return "free"
    return ""


def looks(tree):
    placed = placed_forms(tree)
    if len(placed) > MOST_FORMS:
        raise TooBig("kinds are told of trees of at most 40 forms")
    shapes, pairs = kinds_in(placed)
    settled, fits = fitted(shapes, pairs)
    wanted = []
    for pair in pairs:
        wanted.extend(pair)
    kinds = kinds_told(settled, wanted)
    rows = []
    for number, pair in enumerate(placed):
        asked = None if pair[0] == () else kinds[2 * number + 1]
        rows.append((pair[0], kinds[2 * number], asked, mark_of(tree, pair[0], pair[1], fits[number])))
    return rows


def marks(tree):
    return [(place, mark) for place, given, asked, mark in looks(tree) if mark]


def kind_at(tree, place):
    given = dict([(row[0], row[1]) for row in looks(tree)])
    # Refuses what is no place, also where Python would take a truth for the number of a part.
    form_at(tree, place)
    return given[place]


def blanked(tree):
    made = tree
    # The last ones first: what is beneath a marked form is still there when its own turn comes.
    for place, mark in reversed(marks(tree)):
        made = with_at(made, place, GAP)
    return made
