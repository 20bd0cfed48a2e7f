"""Freer designs: which design lets by whatever another one does, and counts of rows and rounds."""

from windowbelt.belts import Belt
from windowbelt.designs import check_design, tabled
from windowbelt.errors import BadBlock, NotMade, TooLong
from windowbelt.guessers import NEXT
from windowbelt.hands import pressed_row
from windowbelt.pairs import STATE_TOLD, apart, pair_between
from windowbelt.programs import KINDS, is_instruction, kind_pairs
from windowbelt.rights import forced_in, is_right, least_table
from windowbelt.states import check_state
from windowbelt.windows import new_belt

MOST_ROUNDS = 200
MOST_IN_BLOCK = 3


def effective_width(design):
    """How many instructions a design lets be in the window at once at most (BadDesign)."""
    check_design(design)
    return width_used(design)


def lets_by_all(one, other):
    """Whether one right design lets by every row that the other one does (BadDesign, NotMade)."""
    check_two(one, other)
    return width_used(one) >= width_used(other) and not barring_entries(one, other)


def barred_row(one, other):
    """(program, state, guesser, row) that other lets by and one does not, None if there is none.

    BadDesign, NotMade.
    """
    check_two(one, other)
    width = width_used(one)
    if width < width_used(other):
        kinds = least_open_row(other, width + 1)
        return apart(kinds), STATE_TOLD, NEXT, laying_row(other, kinds)
    barring = barring_entries(one, other)
    if not barring:
        return None
    program = pair_between(barring[0])
    row = pressed_row(other, program, STATE_TOLD, NEXT, barring[0][4])
    return program, STATE_TOLD, NEXT, row


def freest(design):
    """The design with its least table (BadDesign)."""
    return tabled(design, least_table(design))


def count_rows(design, block, state):
    """The number of the rows behind which the run of a block has ended.

    BadDesign, BadBlock, BadState.
    """
    check_design(design)
    if not is_block(block):
        raise BadBlock("no program of at most 3 instructions without an if")
    check_state(state)
    return count_behind(Belt(design, block, state, NEXT), {})


def rounds_of(design, program, state, guesser):
    """The number of rounds of a run in which all that can come at the beginning of one comes.

    BadDesign, BadProgram, BadState, BadGuesser, TooLong.
    """
    belt = new_belt(design, program, state, guesser)
    rounds = 0
    while not belt.is_over():
        if rounds == MOST_ROUNDS:
            raise TooLong(MOST_ROUNDS)
        do_round(belt)
        rounds += 1
    return rounds


def check_two(one, other):
    """Raises an error for all but two right designs with the same hands and homes."""
    check_design(one)
    check_design(other)
    if not is_right(one) or not is_right(other):
        raise NotMade("a design that is not right")
    if one[2:4] != other[2:4]:
        raise NotMade("designs with other hands or homes")


def barring_entries(one, other):
    """What one design asks for and the other one does not: its entries, then its order."""
    order = [("any", kind, later, "out", "out") for kind, later in kind_pairs()] if one[1] else []
    return [entry for entry in list(one[4]) + order if not forced_in(other, entry)]


def width_used(design):
    """The effective width of a sound design."""
    width = design[0]
    while least_open_row(design, width) is None:
        width -= 1
    return width


def least_open_row(design, many):
    """The least open row of so many kinds in a sound design, None if there is none."""
    return least_open_row_from(design, (), many)


def least_open_row_from(design, kinds, many):
    """The least open row of so many kinds that begins with these, None if there is none."""
    if laying_row(design, kinds) is None:
        return None
    if len(kinds) == many:
        return kinds
    for kind in sorted(KINDS):
        found = least_open_row_from(design, kinds + (kind,), many)
        if found is not None:
            return found
    return None


def laying_row(design, kinds):
    """The row that lays the apart instructions of these kinds without any "out", or None.

    The row of kinds must not be longer than the design is wide.
    """
    belt = Belt(design, apart(kinds), STATE_TOLD, NEXT)
    row = []
    while not belt.at_end():
        steps = [event for event in belt.events() if event[0] != "out"]
        if not steps:
            return None
        row.append(steps[0])
        belt.do(steps[0])
    return tuple(row)


def is_block(value):
    """Whether a value is a program of at most 3 instructions without an if."""
    if not isinstance(value, tuple) or len(value) > MOST_IN_BLOCK:
        return False
    return all([is_instruction(item) and item[0] != "if" for item in value])


def count_behind(belt, counted):
    """The number of the rows on which a run goes on from here until it has ended.

    counted holds, and gets, the numbers of the moments that were there before.
    """
    if belt.is_over():
        return 1
    moment = belt.moment()
    if moment not in counted:
        many = 0
        for event in belt.events():
            belt.do(event)
            many += count_behind(belt, counted)
            belt.go_back(moment)
        counted[moment] = many
    return counted[moment]


def do_round(belt):
    """Does all events that can come now, in their order, as far as they still can come."""
    for event in belt.events():
        if belt.can_come(event):
            belt.do(event)
