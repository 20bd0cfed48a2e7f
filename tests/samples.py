"""Values that several tests share."""

from windowbelt.errors import BadProgram, WindowError

WORDS = (0,) * 8
STATE = (WORDS, WORDS, ())

KINDS = ("set", "sum", "get", "put", "if", "show")
WRITING = ("set", "sum", "get")
EVENTS = ("lay", "read", "make", "write", "out")
RELATIONS = ("feeds", "used", "same", "cells", "memory", "shows", "jump", "any")
ALL_HOMES = tuple(
    (one, other, third)
    for one in ("write", "out") for other in ("write", "out") for third in ("write", "out")
)
NEXT = ("next",)
GOAL = ("goal",)
LETTERS = {"r": "read", "m": "make", "w": "write", "o": "out"}

# The state of point 18, and the apart instructions of point 23, by kind and place.
TOLD = ((1, 2, 4, 3, 2, 0, 0, 0), (3, 6, 5, 7, 8, 11, 12, 0), ())
APART = {
    "set": tuple(("set", place, 5) for place in range(4)),
    "sum": tuple(("sum", place, 4, 4, 1) for place in range(4)),
    "get": tuple(("get", place, 4, place) for place in range(4)),
    "put": tuple(("put", 4, 4, place) for place in range(4)),
    "if": (("if", 4, 0),) * 4,
    "show": (("show", 4),) * 4,
}

# Values of every kind that an argument may have, none of them an integer.
NO_INTEGERS = (
    True, False, None, "", "0", "set", (), (0,), ((),), [], [0], {}, {0: 0},
    WindowError("x"), BadProgram(0),
)

# Values of every kind that an argument may have, none of them a tuple.
NO_TUPLES = (
    True, False, None, 0, 1, -1, 255, 10 ** 30, "", "set", "show 0", [], [0], {}, {0: 0},
    WindowError("x"), BadProgram(0),
)

# Values of every kind that an argument may have, none of them a word of the document.
NO_WORDS = (
    True, False, None, 0, 1, -1, 10 ** 30, "", "LAY", "lay ", "hop", (), ("lay",), ("set",), [],
    ["lay"], ["set"], {}, {"lay": "lay"}, WindowError("x"), BadProgram(0),
)

ENTRY = ("any", "set", "sum", "out", "lay")
NO_ENTRIES = NO_TUPLES + (
    (), ("any",), ENTRY[:4], ENTRY + ("lay",), list(ENTRY), (ENTRY,),
    ("any", "set", "sum", "lay", "out"),
) + tuple(
    ENTRY[:place] + (wrong,) + ENTRY[place + 1:] for place in range(5) for wrong in NO_WORDS
)

# Values that are no tables; the entries in them are sound but where a value stands for one.
EARLIER_ENTRY = ("any", "get", "sum", "out", "lay")
NO_TABLES = NO_TUPLES + (
    (ENTRY, EARLIER_ENTRY), (ENTRY, ENTRY), (EARLIER_ENTRY, ENTRY, ENTRY), [ENTRY], ENTRY,
    (EARLIER_ENTRY, ("any", "set", "put", "out", "lay"), EARLIER_ENTRY), ((),), (None,),
    (ENTRY[:4],), (list(ENTRY),), (EARLIER_ENTRY, list(ENTRY)), (EARLIER_ENTRY, None), (0, ENTRY),
)

DESIGN = (2, False, True, ("write", "write", "out"), ())
NO_DESIGNS = NO_TUPLES + (
    (), DESIGN[:4], DESIGN + ((),), list(DESIGN), (DESIGN,), DESIGN[1:] + (2,),
) + tuple(
    (width,) + DESIGN[1:] for width in NO_INTEGERS + (0, 5, -1, 10 ** 30)
) + tuple(
    DESIGN[:place] + (wrong,) + DESIGN[place + 1:]
    for place in (1, 2)
    for wrong in (0, 1, None, "", "yes", "True", (), (True,), [], {}, WindowError("x"))
) + tuple(
    DESIGN[:3] + (homes, ()) for homes in NO_TUPLES + (
        (), ("write",), ("write", "out"), ("write", "out", "out", "out"), ["write", "out", "out"],
        ("make", "out", "out"), ("write", "read", "out"), ("write", "out", "lay"), "out",
        (("out",), "out", "out"), ("out", ["out"], "out"), ("out", "out", None), (4, 4, 4),
    )
) + tuple(DESIGN[:4] + (table,) for table in NO_TABLES)

NO_GUESSERS = NO_TUPLES + (
    (), ("row",), ("next", ()), ("goal", 1), ("next", (1,)), ("goal", (1,)), ("nextgoal",),
    ("row", ()), ("row", (0,) * 31), ("row", (41,)), ("row", (0, 1, 41)), ("row", (-1,)),
    ("row", (0, -1)), ("row", (True,)), ("row", (0, False)), ("row", 1), ("row", (1,), (1,)),
    ("row", [1]), ["row", (1,)], ["next"], ("rows", (1,)), (("row",), (1,)), ("row", (None,)),
    ("row", ("1",)), ("row", ((1,),)), ("row", "1"), ("row", {1: 1}), (None, (1,)), (0,),
)

NO_PROGRAMS = ((None, None), ([], None), ((None,), 0), ((("show", 0), ("if", 0, 3)), 1))
NO_STATES = (None, (), [WORDS, WORDS, ()], (WORDS, WORDS), (WORDS, WORDS, (256,)))


def state_of(registers=(), cells=(), shown=()):
    """A state that begins with these words; all the others are 0."""
    return (
        tuple(registers) + WORDS[len(registers):],
        tuple(cells) + WORDS[len(cells):],
        tuple(shown),
    )


def design_of(*table, width=4, inorder=False, hands=True, homes=("out", "out", "out")):
    """A design whose table has these entries."""
    return (width, inorder, hands, homes, tuple(sorted(table)))


def row_of(text):
    """The row of events that a text tells: "lay" or, with its place, the letter of an event."""
    return tuple(
        ("lay",) if word == "lay" else (LETTERS[word[0]], int(word[1:])) for word in text.split()
    )


def whole(place):
    """The four events behind "lay" of a place, as row_of takes them."""
    return f"r{place} m{place} w{place} o{place}"


def random_program(source, many):
    """A program of so many instructions that have much to do with each other."""
    return tuple(random_instruction(source, many) for _ in range(many))


def random_instruction(source, many):
    """An instruction that can stand in a program of so many."""
    kind = source.choice(KINDS)
    a, b, c, n = [source.randrange(3) for _ in range(4)]
    return {
        "set": (kind, a, n), "sum": (kind, a, b, c, n), "get": (kind, a, b, n),
        "put": (kind, a, b, n), "if": (kind, a, source.randrange(many + 1)), "show": (kind, a),
    }[kind]


def random_case(source):
    """A program, a state and a guesser, and numbers that tell a hand."""
    program = random_program(source, source.randrange(7))
    state = state_of([source.randrange(3) for _ in range(8)], range(8))
    guesser = source.choice((NEXT, GOAL, ("row", (3, 1, 7, 2, 40))))
    numbers = tuple(source.randrange(60) for _ in range(source.randrange(1, 51)))
    return program, state, guesser, numbers
