"""Short programs: two instructions between which a relation holds, or some that keep apart."""

# The state from which these programs begin.
STATE_TOLD = ((1, 2, 4, 3, 2, 0, 0, 0), (3, 6, 5, 7, 8, 11, 12, 0), ())

# Makers, emptiers and elders write register 0, users use it.
MAKERS = {"set": ("set", 0, 5), "sum": ("sum", 0, 4, 4, 1), "get": ("get", 0, 4, 0)}
EMPTIERS = {"set": ("set", 0, 0), "sum": ("sum", 0, 5, 5, 0), "get": ("get", 0, 4, 5)}
ELDERS = {"set": ("set", 0, 9), "sum": ("sum", 0, 2, 2, 0), "get": ("get", 0, 2, 0)}
USERS = {
    "sum": ("sum", 1, 0, 0, 0),
    "get": ("get", 1, 0, 0),
    "put": ("put", 2, 0, 0),
    "if": ("if", 0, 3),
    "show": ("show", 0),
}

# The user "if" in a program of two instructions. Where it stands its register never holds 0.
SHORT_IF = ("if", 0, 0)

# What goes to the cell that register 4 tells.
AT_CELL = {"put": ("put", 2, 4, 0), "get": ("get", 1, 4, 0)}

# What stands behind an if that jumps over it.
JUMPED = {
    "set": ("set", 0, 5),
    "sum": ("sum", 0, 4, 4, 1),
    "get": ("get", 0, 4, 0),
    "put": ("put", 2, 4, 0),
    "show": ("show", 1),
}


def pair_of(need):
    """The two instructions for a need."""
    relation, kind, other = need[:3]
    if relation == "feeds":
        return (EMPTIERS[kind] if other == "if" else MAKERS[kind], USERS[other])
    if relation == "used":
        return (USERS[kind], MAKERS[other])
    if relation == "same":
        return (ELDERS[kind], MAKERS[other])
    if relation == "cells":
        return pair_at_cell(kind, other)
    if relation == "shows":
        return (("show", 1), ("show", 2))
    return (("if", 5, 2), JUMPED[other])


def pair_at_cell(kind, other):
    """Two instructions that go to one cell; two puts put words that are unlike."""
    if kind == "put" and other == "put":
        return (AT_CELL["put"], ("put", 3, 4, 0))
    return (AT_CELL[kind], AT_CELL[other])


def program_and_state(need):
    """(program, state) for a need."""
    pair = pair_of(need)
    registers, cells, words = STATE_TOLD
    if pair[0] == USERS["if"]:
        registers = (0,) + registers[1:]
    # The if that uses register 0 has its goal behind this third instruction.
    third = (("set", 6, 9),) if USERS["if"] in pair else ()
    return pair + third, (registers, cells, words)


def pair_between(entry):
    """The two instructions for an entry of any table that can hold."""
    relation, kind, other = entry[:3]
    if relation == "feeds":
        return (MAKERS[kind], short_user(other))
    if relation == "used":
        return (short_user(kind), MAKERS[other])
    if relation in ("same", "cells"):
        return pair_of(entry)
    return apart((kind, other))


def short_user(kind):
    """The user of register 0 in a program of two instructions."""
    return SHORT_IF if kind == "if" else USERS[kind]


def apart(kinds):
    """The program of the apart instructions of these kinds, at places 0, 1, .."""
    return tuple([apart_one(kind, place) for place, kind in enumerate(kinds)])


def apart_one(kind, place):
    """The instruction of a kind that, at its place, has nothing to do with those beside it."""
    if kind == "set":
        return ("set", place, 5)
    if kind == "sum":
        return ("sum", place, 4, 4, 1)
    if kind == "get":
        return ("get", place, 4, place)
    if kind == "put":
        return ("put", 4, 4, place)
    if kind == "if":
        return ("if", 4, 0)
    return ("show", 4)
