"""Stops: giving up all that is not out, and which designs can be stopped at any moment."""

from windowbelt.belts import LAY, OUT, Belt
from windowbelt.guessers import NEXT
from windowbelt.hands import pressed_row
from windowbelt.pairs import STATE_TOLD, apart
from windowbelt.programs import kind_pairs
from windowbelt.rights import first_shown, forced_in, is_right
from windowbelt.windows import belt_behind

# For each home that is "write": an instruction, and the row behind which it had its effect.
ALONE = (("set", 0, 5), ("put", 2, 4, 0), ("show", 1))
ALONE_ROW = (("lay",), ("read", 0), ("make", 0), ("write", 0))

# The first if is guessed wrong, those behind it are guessed right.
IFS = (("if", 5, 3), ("if", 4, 0), ("if", 4, 0), ("set", 0, 5))


def stopped(design, program, state, guesser, row):
    """(state, out) behind a row, all that is not out being given up.

    BadDesign, BadProgram, BadState, BadGuesser, BadRow.
    """
    belt = belt_behind(design, program, state, guesser, row)
    return belt.state_now(), belt.out()


def stops_cleanly(design):
    """Whether each stop leaves the plain machine's state behind as many (BadDesign)."""
    return is_right(design) and "write" not in design[3] and overtaking_pair(design) is None


def unclean(design):
    """(program, state, guesser, row) of a stop that is not clean, None if all are (BadDesign)."""
    wrong = first_shown(design)
    if wrong is not None:
        return wrong
    homes = design[3]
    if "write" in homes:
        return (ALONE[homes.index("write")],), STATE_TOLD, NEXT, ALONE_ROW
    pair = overtaking_pair(design)
    if pair is None:
        return None
    if pair == ("if", "if"):
        return IFS, STATE_TOLD, NEXT, row_of_ifs(design)
    program = apart(pair)
    return program, STATE_TOLD, NEXT, pressed_row(design, program, STATE_TOLD, NEXT, "out")


def overtaking_pair(design):
    """The least pair of kinds of which a sound design lets the later one go out too early."""
    for kind, other in kind_pairs():
        if not forced_in(design, entry_of_stop(kind, other)):
            return (kind, other)
    return None


def entry_of_stop(kind, other):
    """What must be forced for two kinds, so that a design may stop cleanly."""
    # An if has no effect: it is enough that it is decided ahead of what it may throw away.
    done = "make" if (kind, other) == ("if", "if") else "out"
    return ("any", kind, other, done, "out")


def row_of_ifs(design):
    """The row up to the moment at which the second and the third if are both out."""
    belt = Belt(design, IFS, STATE_TOLD, NEXT)
    row = []
    while belt.done_at(1) < OUT or belt.done_at(2) < OUT:
        row.append(event_of_ifs(belt))
        belt.do(row[-1])
    return tuple(row)


def event_of_ifs(belt):
    """The event that the hand picks which lets the first if wait as long as it can."""
    if belt.many_laid < 3 and belt.can_lay():
        return LAY
    steps = [belt.step_of(place) for place in (1, 2, 0)]
    return [event for event in steps if event is not None][0]
