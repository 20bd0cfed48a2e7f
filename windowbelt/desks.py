"""A desk: a run in the window that goes on by lines, event by event, and back again."""

from windowbelt.belts import LAY
from windowbelt.designs import EVENTS_BUT_LAY
from windowbelt.errors import InvalidText, NothingToUndo, NotNow
from windowbelt.lines import check_text, line_of, number_told, yes_or_no
from windowbelt.rights import is_right
from windowbelt.values import is_from_to
from windowbelt.windows import new_belt

MOST_AT_ONCE = 200


class Desk:
    """A run of a program in the window (BadDesign, BadProgram, BadState, BadGuesser)."""

    def __init__(self, design, program, state, guesser):
        self.belt = new_belt(design, program, state, guesser)
        self.design = design
        # The events done, and the moment ahead of each of them.
        self.past = []
        self.moments = []

    @property
    def row(self):
        """The tuple of the events done."""
        return tuple(self.past)

    @property
    def state(self):
        """The state as it stands."""
        return self.belt.state_now()

    def run(self, line):
        """Does what a line asks for; a string or None (NotText, InvalidText, NotNow)."""
        check_text(line)
        if line == "events":
            return " ; ".join([line_of(event) for event in self.belt.events()])
        if line == "state":
            return line_of(self.belt.store.registers)
        if line == "out":
            return str(self.belt.out())
        if line == "right":
            return yes_or_no(is_right(self.design))
        self.go_on(line)
        return None

    def undo(self):
        """Takes the last event back (NothingToUndo)."""
        if not self.past:
            raise NothingToUndo("no event was done")
        self.past.pop()
        self.belt.go_back(self.moments.pop())

    def go_on(self, line):
        """Does the events that a line asks for (InvalidText, NotNow)."""
        event = event_told(line)
        many = many_told(line)
        if event is not None:
            if not self.belt.can_come(event):
                raise NotNow("an event that cannot come")
            self.do(event)
        elif many is not None:
            self.do_first(many)
        else:
            raise InvalidText(1)

    def do_first(self, many):
        """Does so many times the first event that can come, as far as there are any."""
        for _ in range(many):
            events = self.belt.events()
            if events:
                self.do(events[0])

    def do(self, event):
        """Does an event that can come."""
        self.moments.append(self.belt.moment())
        self.past.append(event)
        self.belt.do(event)


def event_told(line):
    """The event that a line tells, whether it can come or not, None for none."""
    if line == "lay":
        return LAY
    word, _, told = line.partition(" ")
    place = number_told(told)
    if word not in EVENTS_BUT_LAY or place is None:
        return None
    return (word, place)


def many_told(line):
    """How many events a line asks for by "on", None for any other line."""
    word, _, told = line.partition(" ")
    many = number_told(told)
    return many if word == "on" and is_from_to(many, 1, MOST_AT_ONCE) else None
