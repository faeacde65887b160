"""Rows of a run: which things are finished, which rows clash, and what stood around a gap."""

# The sort asked of each operand that can be of a wrong one; a finished row is that of a function.
SORTS_ASKED = {
    "plus": ("num", "num"),
    "minus": ("num", "num"),
    "less": ("num", "num"),
    "if": ("truth",),
    "call": ("row",),
}


def is_finished(thing, rows):
    return thing[0] != "row" or rows[thing[1]][0] in ("fn", "rec")


def is_clashing(row, rows):
    sorts = SORTS_ASKED.get(row[0], ())
    return any([is_finished(thing, rows) and thing[0] != sort for thing, sort in zip(row[2], sorts)])


def clashes(rows):
    return [number for number, row in enumerate(rows) if is_clashing(row, rows)]


def arounds_at(record, place):
    return [list(row[3]) for row in record[1] if row[0] == "gap" and row[1] == place]
