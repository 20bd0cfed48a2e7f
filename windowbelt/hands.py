"""The pressing hand: it lets the instruction laid second do its events as early as it can."""

from windowbelt.belts import LAY, Belt
from windowbelt.designs import event_number


def pressing_row(design, program, state, guesser, event):
    """The row of the hand that presses for an event of the second one, until the run has ended."""
    belt = Belt(design, program, state, guesser)
    row = press(belt, event)
    return tuple(row + finish(belt))


def pressed_row(design, program, state, guesser, event):
    """The row of that hand up to this event of the second one."""
    return tuple(press(Belt(design, program, state, guesser), event))


def press(belt, event):
    """Presses until the second one has done an event; the list of all that came."""
    row = []
    while belt.done_at(1) < event_number(event):
        row.append(pressing_event(belt))
        belt.do(row[-1])
    return row


def pressing_event(belt):
    """The event that the hand picks as long as it presses."""
    if belt.many_laid < 2 and belt.can_lay():
        return LAY
    second = belt.step_of(1)
    return belt.step_of(0) if second is None else second


def finish(belt):
    """Goes on until the run has ended; the list of the events."""
    row = []
    while not belt.is_over():
        steps = belt.steps()
        row.append(steps[0] if steps else LAY)
        belt.do(row[-1])
    return row
