"""Which choices of kinds there are: what each form gives and asks, and what is known once places must fit.

A kind is a number here. What is known of it, its shape, stands at that number in a list of shapes: ("num",),
("truth",), ("to", A, B) with A and B such numbers, ("any",) for an unknown one, ("same", A) for one that is A.
"""

from gapscribe.scopes import names_bound

NUM = 0
TRUTH = 1
FIRST_SHAPES = (("num",), ("truth",))


def new_kind(shapes, shape):
    shapes.append(shape)
    return len(shapes) - 1


def kinds_of_word(shapes, word):
    # What a form of the word gives, what it asks of its parts, and the kinds of the names that it binds.
    if word == "num":
        return (NUM, [], [])
    if word == "truth":
        return (TRUTH, [], [])
    if word in ("plus", "minus"):
        return (NUM, [NUM, NUM], [])
    if word == "less":
        return (TRUTH, [NUM, NUM], [])
    one = new_kind(shapes, ("any",))
    if word == "if":
        return (one, [TRUTH, one, one], [])
    if word in ("gap", "odd", "name"):
        return (one, [], [])
    other = new_kind(shapes, ("any",))
    if word == "let":
        return (other, [one, other], [one])
    function = new_kind(shapes, ("to", one, other))
    if word == "fn":
        return (function, [other], [one])
    if word == "rec":
        return (function, [other], [function, one])
    return (other, [function, one], [])


def with_names(around, names, kinds):
    # In the order of the bindings, so that of alike names the last one holds.
    made = dict(around)
    for name, kind in zip(names, kinds):
        made[name] = kind
    return made


def kinds_in(placed):
    shapes = list(FIRST_SHAPES)
    pairs = []
    asked_at = {}
    around_at = {(): {}}
    for place, form in placed:
        given, asked, bound = kinds_of_word(shapes, form[0])
        if form[0] == "name":
            given = around_at[place].get(form[1], given)
        # The top is asked for what it gives: it fits whatever this is.
        pairs.append((given, asked_at.get(place, given)))
        for number, kind in enumerate(asked):
            part = place + (number,)
            asked_at[part] = kind
            around_at[part] = with_names(around_at[place], names_bound(form, number), bound)
    return (shapes, pairs)


def last_same(shapes, kind):
    last = kind
    while shapes[last][0] == "same":
        last = shapes[last][1]
    return last


def holds_itself(shapes, kind):
    # A kind is passed once all within it is gone through; one that is met again before that holds itself.
    passed = {}
    waiting = [last_same(shapes, kind)]
    while waiting:
        top = waiting[-1]
        if top in passed:
            passed[top] = True
            waiting.pop()
            continue
        passed[top] = False
        for part in shapes[top][1:]:
            inner = last_same(shapes, part)
            if passed.get(inner) is False:
                return True
            waiting.append(inner)
    return False


def joined(shapes, one, other):
    # Two functions become one before their parts do, so that no two kinds are ever joined twice.
    made = list(shapes)
    waiting = [(one, other)]
    while waiting:
        pair = waiting.pop()
        left, right = last_same(made, pair[0]), last_same(made, pair[1])
        if left == right:
            continue
        if made[right][0] == "any":
            left, right = right, left
        if made[left][0] == "to" and made[right][0] == "to":
            waiting.extend(list(zip(made[left][1:], made[right][1:])))
        elif made[left][0] != "any":
            return None
        made[left] = ("same", right)
    return None if holds_itself(made, one) else made


def fitted(shapes, pairs):
    # What does not fit is left out, so that what is behind it is held against the others alone.
    made = shapes
    fits = []
    for given, asked in pairs:
        after = joined(made, given, asked)
        fits.append(after is not None)
        made = made if after is None else after
    return (made, fits)


def kinds_told(shapes, wanted):
    # Each kind is made once, however often it stands within others: written out, they may be far too great.
    told = {}
    many_unknown = 0
    waiting = list(reversed(wanted))
    while waiting:
        kind = last_same(shapes, waiting[-1])
        parts = [last_same(shapes, part) for part in shapes[kind][1:]]
        missing = [part for part in parts if part not in told]
        if kind in told:
            waiting.pop()
        elif missing:
            # The left one first, as unknown kinds are numbered as they come.
            waiting.append(missing[0])
        elif shapes[kind][0] == "any":
            told[kind] = ("any", many_unknown)
            many_unknown += 1
        else:
            told[kind] = (shapes[kind][0],) + tuple([told[part] for part in parts])
    return [told[last_same(shapes, kind)] for kind in wanted]
