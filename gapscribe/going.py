"""Going on with the record of a run when one of its gaps is filled."""

from gapscribe.deeds import refuse_no_gap
from gapscribe.machine import PARTS_AWAITED, Machine
from gapscribe.places import form_at, with_at


def thing_now(thing, became):
    return became[thing[1]] if thing[0] == "row" else thing


def thing_of_row(machine, row, filled, became):
    word, place = row[:2]
    operands = [thing_now(thing, became) for thing in row[2]]
    around = [(name, thing_now(thing, became)) for name, thing in row[3]]
    if place == filled:
        return machine.thing_of_form(place, around)
    if word in PARTS_AWAITED:
        return machine.thing_of_parts(place, operands, around)
    return machine.new_row(word, place, operands, around)


def go_on(tree, record, place, form):
    refuse_no_gap(form_at(tree, place))
    answer, rows, steps = record
    machine = Machine(with_at(tree, place, form), steps)
    became = []
    for row in rows:
        became.append(thing_of_row(machine, row, place, became))
    return (thing_now(answer, became), machine.rows, machine.steps)
