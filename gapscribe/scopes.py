"""Bindings: the names that the forms above a place bind there, and the places of these forms."""

from gapscribe.places import forms_down_to


def names_bound(form, number):
    if form[0] == "fn":
        return [form[1]]
    if form[0] == "rec":
        return list(form[1])
    # The first part of a let is what its name will stand for, so the name is not yet bound there.
    if form[0] == "let" and number == 1:
        return [form[1]]
    return []


def bindings_at(tree, place):
    told = []
    for depth, above in enumerate(forms_down_to(tree, place)[:-1]):
        for name in names_bound(above, place[depth]):
            told.append((name, place[:depth]))
    return told


def names_at(tree, place):
    return [name for name, where in bindings_at(tree, place)]


def binding_at(tree, place, name):
    last = None
    for number, bound in enumerate(names_at(tree, place)):
        if bound == name:
            last = number
    return last


def binder(tree, place, number):
    return bindings_at(tree, place)[number][1]
