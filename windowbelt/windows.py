"""The window: which events can come behind a row of them, and whole runs."""

from windowbelt.belts import Belt
from windowbelt.designs import check_design
from windowbelt.errors import BadNumber, BadRow, TooLong
from windowbelt.guessers import check_guesser
from windowbelt.programs import check_program
from windowbelt.states import check_state
from windowbelt.values import is_integer

MOST_EVENTS = 600
MOST_NUMBERS = 50


def events_behind(design, program, state, guesser, row):
    """The tuple of all events that can come behind a row of events.

    BadDesign, BadProgram, BadState, BadGuesser, BadRow.
    """
    return tuple(belt_behind(design, program, state, guesser, row).events())


def stand(design, program, state, guesser, row):
    """(state, next, out, here) behind a row of events.

    BadDesign, BadProgram, BadState, BadGuesser, BadRow.
    """
    belt = belt_behind(design, program, state, guesser, row)
    here = tuple([(item.place, item.number, item.event()) for item in belt.window])
    return belt.state_now(), belt.following, belt.out(), here


def has_ended(design, program, state, guesser, row):
    """Whether the run has ended behind a row of events.

    BadDesign, BadProgram, BadState, BadGuesser, BadRow.
    """
    return belt_behind(design, program, state, guesser, row).is_over()


def run(design, program, state, guesser, numbers):
    """(state, done, row) of the run whose hand is told by numbers.

    BadDesign, BadProgram, BadState, BadGuesser, BadNumber, TooLong.
    """
    belt = new_belt(design, program, state, guesser)
    if not are_picks(numbers):
        raise BadNumber("no tuple of 1 to 50 integers from 0 on")
    row = []
    while not belt.is_over():
        if len(row) == MOST_EVENTS:
            raise TooLong(MOST_EVENTS)
        events = belt.events()
        event = events[numbers[len(row) % len(numbers)] % len(events)]
        belt.do(event)
        row.append(event)
    return belt.state_now(), belt.out(), tuple(row)


def new_belt(design, program, state, guesser):
    """A run that begins (BadDesign, BadProgram, BadState, BadGuesser)."""
    check_design(design)
    check_program(program)
    check_state(state)
    check_guesser(guesser)
    return Belt(design, program, state, guesser)


def belt_behind(design, program, state, guesser, row):
    """The run behind a row (BadDesign, BadProgram, BadState, BadGuesser, BadRow)."""
    belt = new_belt(design, program, state, guesser)
    if not isinstance(row, tuple) or len(row) > MOST_EVENTS:
        raise BadRow(None)
    for index, item in enumerate(row):
        if not belt.can_come(item):
            raise BadRow(index)
        belt.do(item)
    return belt


def are_picks(value):
    """Whether a value tells a hand: a tuple of 1 to 50 integers from 0 on."""
    if not isinstance(value, tuple) or not 1 <= len(value) <= MOST_NUMBERS:
        return False
    return all([is_integer(number) and number >= 0 for number in value])
