"""Places in a tree: all of them in reading order, the form at one, and the tree with another form there."""

from gapscribe.errors import NoPlace
from gapscribe.forms import is_whole


def placed_forms(tree):
    # A row of what is still to be walked, as a tree may be nested deeper than calls may be.
    told = []
    waiting = [((), tree)]
    while waiting:
        pair = waiting.pop()
        told.append(pair)
        # The last part goes in first, so that the first one comes out first.
        for number, part in reversed(list(enumerate(pair[1][2]))):
            waiting.append((pair[0] + (number,), part))
    return told


def places(tree):
    return [place for place, form in placed_forms(tree)]


def gaps(tree):
    return [place for place, form in placed_forms(tree) if form[0] == "gap"]


def has_part(form, number):
    # A number below 0 would be counted from the end by Python, and a truth taken for 0 or 1.
    return is_whole(number) and 0 <= number < len(form[2])


def forms_down_to(tree, place):
    passed = [tree]
    for number in place:
        if not has_part(passed[-1], number):
            raise NoPlace(place)
        passed.append(passed[-1][2][number])
    return passed


def form_at(tree, place):
    return forms_down_to(tree, place)[-1]


def with_part(form, number, part):
    parts = form[2]
    return (form[0], form[1], parts[:number] + (part,) + parts[number + 1:])


def with_at(tree, place, form):
    made = form
    for number, above in reversed(list(zip(place, forms_down_to(tree, place)))):
        made = with_part(above, number, made)
    return made
