"""A run in the window: the instructions that were laid, and what their events do."""

from windowbelt.designs import EVENTS, home_among
from windowbelt.guessers import guessed
from windowbelt.plain import cell_told, result
from windowbelt.programs import WRITING_KINDS, register_written, registers_used
from windowbelt.relations import holds, last_writer
from windowbelt.states import Store
from windowbelt.values import is_from_to

LAY = ("lay",)
MADE = 2
OUT = 4


class Laid:
    """An instruction that was laid, or is to be laid next."""

    def __init__(self, instruction, number, place, ahead):
        self.instruction = instruction
        self.kind = instruction[0]
        self.number = number
        self.place = place
        # How many stand ahead of it that were not thrown away. This stays as it is: whatever
        # throws one of these away throws this one away, too.
        self.ahead = ahead
        self.done = 0
        self.thrown = False
        self.guess = None
        self.words = []
        self.cell = None
        self.made = None

    def event(self):
        """The last event that it has done."""
        return EVENTS[self.done]

    def coming(self):
        """The next event of one that is not out."""
        return EVENTS[self.done + 1]


class Belt:
    """A run of a program in the window of a design, all of them sound."""

    def __init__(self, design, program, state, guesser):
        width, inorder, hands, homes, table = design
        self.width = width
        self.inorder = inorder
        self.hands = hands
        self.homes = homes
        self.rules = rules_of(table)
        self.program = program
        self.guesser = guesser
        self.store = Store(state)
        # All that were laid, and those of them that were not thrown away.
        self.laid = []
        self.kept = []
        self.following = 0
        self.ifs = 0

    def state_now(self):
        """The state as it stands."""
        return self.store.told()

    def here(self):
        """Those that are in the window: not thrown away and not out."""
        return [item for item in self.kept if item.done < OUT]

    def out(self):
        """How many are out and were not thrown away."""
        return len(self.kept) - len(self.here())

    def at_end(self):
        """Whether the end is next."""
        return self.following == len(self.program)

    def is_over(self):
        """Whether the run has ended."""
        return self.at_end() and not self.here()

    def may(self, later, event):
        """Whether the table lets an instruction do an event."""
        ahead = self.kept[:later.ahead]
        for earlier in ahead:
            for relation, number in self.rules.get((earlier.kind, later.kind, event), ()):
                if earlier.done < number and holds(relation, earlier, later, ahead):
                    return False
        return True

    def following_one(self):
        """The instruction that is next, as it is to be laid."""
        number = self.following
        return Laid(self.program[number], number, len(self.laid), len(self.kept))

    def can_lay(self):
        """Whether the next instruction can be laid."""
        if self.at_end() or len(self.here()) >= self.width:
            return False
        return self.may(self.following_one(), "lay")

    def can_go_on(self, item):
        """Whether the next event of one that was laid can come."""
        if item.thrown or item.done == OUT:
            return False
        event = item.coming()
        if event == "out" and self.inorder and self.here()[0].place != item.place:
            return False
        return self.may(item, event)

    def can_come(self, value):
        """Whether a value is an event that can come."""
        if value == LAY:
            return self.can_lay()
        if not isinstance(value, tuple) or len(value) != 2:
            return False
        event, place = value
        if not is_from_to(place, 0, len(self.laid) - 1):
            return False
        item = self.laid[place]
        return self.can_go_on(item) and item.coming() == event

    def events(self):
        """All events that can come: that of laying first, then those of the places."""
        found = [LAY] if self.can_lay() else []
        for item in self.here():
            if self.can_go_on(item):
                found.append((item.coming(), item.place))
        return found

    def do(self, event):
        """Does an event that can come."""
        if event == LAY:
            self.lay()
            return
        item = self.laid[event[1]]
        item.done += 1
        if event[0] == "read":
            self.read(item)
        elif event[0] == "make":
            self.make(item)
        elif event[0] == home_among(self.homes, item.kind):
            self.settle(item)

    def lay(self):
        """Lays the next instruction."""
        item = self.following_one()
        self.following = item.number + 1
        if item.kind == "if":
            goal = item.instruction[2]
            many = len(self.program)
            item.guess = guessed(self.guesser, self.ifs, goal, self.following, many)
            self.following = item.guess
            self.ifs += 1
        self.laid.append(item)
        self.kept.append(item)

    def read(self, item):
        """Takes the words of the registers that an instruction uses."""
        item.words = [self.word_for(item, number) for number in registers_used(item.instruction)]
        if item.kind in ("get", "put"):
            item.cell = cell_told(item.instruction, item.words)

    def word_for(self, item, number):
        """The word that an instruction reads from the register of this number."""
        if self.hands:
            writer = last_writer(self.kept[:item.ahead], number)
            if writer is not None and MADE <= writer.done < OUT:
                return writer.made
        return self.store.registers[number]

    def make(self, item):
        """Makes the result of an instruction that writes, and decides an if."""
        if item.kind in WRITING_KINDS:
            item.made = result(self.store, item.instruction, item.words)
        elif item.kind == "if":
            right = item.instruction[2] if item.words[0] == 0 else item.number + 1
            if right != item.guess:
                self.throw_behind(item)
                self.following = right

    def throw_behind(self, item):
        """Throws away all that were laid behind an instruction."""
        for later in self.kept[item.ahead + 1:]:
            later.thrown = True
        self.kept = self.kept[:item.ahead + 1]

    def settle(self, item):
        """Lets an instruction have its effect on the state."""
        if item.kind == "put":
            self.store.cells[item.cell] = item.words[1]
        elif item.kind == "show":
            self.store.shown.append(item.words[0])
        else:
            self.store.registers[register_written(item.instruction)] = item.made


def rules_of(table):
    """What the entries of a table ask for, by the two kinds and the event that they hold back."""
    rules = {}
    for relation, kind, other, done, event in table:
        rules.setdefault((kind, other, event), []).append((relation, EVENTS.index(done)))
    return rules
