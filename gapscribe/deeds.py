"""Deeds: what may be done to a form, each with the deed that takes it back."""

from gapscribe.errors import NoDeed, NoForm
from gapscribe.forms import GAP, bare, is_form, is_note
from gapscribe.places import has_part, with_part


def refuse_no_form(thing):
    if not is_form(thing):
        raise NoForm("this is no form")


def refuse_no_gap(form):
    if form[0] != "gap":
        raise NoDeed("this is done to a gap alone")


class Deed:
    def done(self, form):
        return form

    def back(self, form):
        return Deed()


# In the deeds below, `back` asks `done` first, so that it refuses just where `done` does.


class Put(Deed):
    def __init__(self, word, note=None):
        self.form = bare(word, note)
        if word == "gap":
            raise NoForm("a gap is not put")

    def done(self, form):
        refuse_no_gap(form)
        return self.form

    def back(self, form):
        self.done(form)
        return Cut()


class Fill(Deed):
    def __init__(self, form):
        refuse_no_form(form)
        if form[0] == "gap":
            raise NoForm("nothing is filled with a gap")
        self.form = form

    def done(self, form):
        refuse_no_gap(form)
        return self.form

    def back(self, form):
        self.done(form)
        return Cut()


class Cut(Deed):
    def done(self, form):
        if form[0] == "gap":
            raise NoDeed("a gap is not cut")
        return GAP

    def back(self, form):
        self.done(form)
        return Fill(form)


class Wrap(Deed):
    def __init__(self, word, note=None, at=0):
        self.form = bare(word, note)
        self.at = at
        if not has_part(self.form, at):
            raise NoForm("forms of this word have no such part")

    def done(self, form):
        return with_part(self.form, self.at, form)

    def back(self, form):
        return Keep(self.at)


class Keep(Deed):
    def __init__(self, at=0):
        self.at = at

    def done(self, form):
        if not has_part(form, self.at):
            raise NoDeed("this form has no such part")
        return form[2][self.at]

    def back(self, form):
        self.done(form)
        # The other parts are lost with this deed, so no Wrap could bring them again.
        return Change(form)


class Note(Deed):
    def __init__(self, note):
        self.note = note

    def done(self, form):
        if not is_note(form[0], self.note):
            raise NoDeed("no form of this word has this note")
        return (form[0], self.note, form[2])

    def back(self, form):
        self.done(form)
        return Note(form[1])


class Change(Deed):
    def __init__(self, form):
        refuse_no_form(form)
        self.form = form

    def done(self, form):
        return self.form

    def back(self, form):
        return Change(form)
