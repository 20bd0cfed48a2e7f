"""Values that several tests share."""

from windowbelt.errors import BadProgram, WindowError

WORDS = (0,) * 8
STATE = (WORDS, WORDS, ())

# Values of every kind that an argument may have, none of them an integer.
NO_INTEGERS = (
    True, False, None, "", "0", "set", (), (0,), ((),), [], [0], {}, {0: 0},
    WindowError("x"), BadProgram(0),
)

# Values of every kind that an argument may have, none of them a tuple.
NO_TUPLES = (
    True, False, None, 0, 1, -1, 255, 10 ** 30, "", "set", "show 0", [], [0], {}, {0: 0},
    WindowError("x"), BadProgram(0),
)


def state_of(registers=(), cells=(), shown=()):
    """A state that begins with these words; all the others are 0."""
    return (
        tuple(registers) + WORDS[len(registers):],
        tuple(cells) + WORDS[len(cells):],
        tuple(shown),
    )
