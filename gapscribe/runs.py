"""Runs of trees, around their gaps."""

from gapscribe.machine import Machine


def run(tree):
    machine = Machine(tree, 0)
    answer = machine.thing_of_form((), [])
    return (answer, machine.rows, machine.steps)
