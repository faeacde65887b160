"""Kinds: ("num",), ("truth",), ("to", A, B) of functions from A to B, and ("any", n), an unknown one."""


def is_function(kind):
    return kind[0] == "to"


def shown_plain(kind):
    if kind[0] == "any":
        return "any" + str(kind[1])
    return kind[0]


def pieces_of_function(kind):
    if is_function(kind[1]):
        return ["(", kind[1], ")", " to ", kind[2]]
    return [kind[1], " to ", kind[2]]


def shown_kind(kind):
    # A row of what is still to be shown, as a kind may be nested deeper than calls may be.
    told = []
    waiting = [kind]
    while waiting:
        piece = waiting.pop()
        if isinstance(piece, str):
            told.append(piece)
        elif is_function(piece):
            waiting.extend(list(reversed(pieces_of_function(piece))))
        else:
            told.append(shown_plain(piece))
    return "".join(told)
