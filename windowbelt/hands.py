"""The pressing hand: it lets the instruction laid second do its events as early as it can."""

from windowbelt.belts import LAY, Belt
from windowbelt.designs import event_number


def pressing_row(design, program, state, guesser, event):
    """The row of the hand that presses for an event of the second one, until the run has ended."""
    belt = Belt(design, program, state, guesser)
    row = press(belt, event_number(event))
    return tuple(row + finish(belt))


def press(belt, number):
    """Presses until the second one has done the event of this number; the list of the events."""
    row = []
    while len(belt.laid) < 2 or belt.laid[1].done < number:
        event = pressing_event(belt)
        belt.do(event)
        row.append(event)
    return row


def pressing_event(belt):
    """The event that the hand picks as long as it presses."""
    if len(belt.laid) < 2:
        if belt.can_lay():
            return LAY
    elif belt.can_go_on(belt.laid[1]):
        return (belt.laid[1].coming(), 1)
    return (belt.laid[0].coming(), 0)


def finish(belt):
    """Goes on until the run has ended; the list of the events."""
    row = []
    while not belt.is_over():
        event = finishing_event(belt)
        belt.do(event)
        row.append(event)
    return row


def finishing_event(belt):
    """The event that the hand picks when it presses no longer: the first place's comes first."""
    steps = [event for event in belt.events() if event != LAY]
    return steps[0] if steps else LAY
