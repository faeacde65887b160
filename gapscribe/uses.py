"""Uses: which bindings what stands at a place tells of."""

from gapscribe.places import form_at
from gapscribe.scopes import binding_at, names_at


def bindings_in_sight(names):
    return [(name, number) for number, name in enumerate(names) if name not in names[number + 1:]]


def uses_at(tree, place):
    # Pairs of a name and the number of its binding, None where it is free. A gap may become any name in sight.
    form = form_at(tree, place)
    if form[0] == "name":
        return [(form[1], binding_at(tree, place, form[1]))]
    if form[0] == "gap":
        return bindings_in_sight(names_at(tree, place))
    return []
