"""A run in the window: the instructions that are in it, and what their events do."""

from windowbelt.designs import EVENTS, home_among
from windowbelt.guessers import guessed
from windowbelt.plain import cell_told, result
from windowbelt.programs import WRITING_KINDS, register_written, registers_used
from windowbelt.relations import holds
from windowbelt.states import REGISTERS, Store
from windowbelt.values import is_integer

LAY = ("lay",)
NOT_LAID = -1
MADE = 2
OUT = 4


class Laid:
    """An instruction that was laid, or is to be laid next.

    ahead is how many stand ahead of it that were not thrown away, writers the place of the last
    one of these that writes a register, or None, for each register. Both stay as they are:
    whatever throws one of these away throws this one away, too.
    """

    def __init__(
        self, instruction, number, place, ahead, writers,
        done=0, guess=None, words=(), cell=None, made=None,
    ):
        self.instruction = instruction
        self.kind = instruction[0]
        self.number = number
        self.place = place
        self.ahead = ahead
        self.writers = writers
        self.done = done
        self.guess = guess
        self.words = words
        self.cell = cell
        self.made = made

    def told(self):
        """All that another one like it is made with."""
        return (
            self.instruction, self.number, self.place, self.ahead, self.writers,
            self.done, self.guess, self.words, self.cell, self.made,
        )

    def event(self):
        """The last event that it has done."""
        return EVENTS[self.done]

    def coming(self):
        """The next event of one that is not out."""
        return EVENTS[self.done + 1]

    def sources(self):
        """For each register that it uses, the place of the last one ahead that writes it."""
        return [self.writers[number] for number in registers_used(self.instruction)]


class Belt:
    """A run of a program in the window of a design, all of them sound."""

    def __init__(self, design, program, state, guesser):
        width, inorder, hands, homes, table = design
        self.width = width
        self.inorder = inorder
        self.hands = hands
        self.homes = homes
        self.rules = rules_of(table)
        self.program = program
        self.guesser = guesser
        self.store = Store(state)
        # Those that are neither out nor thrown away: what is out holds back nothing any more.
        self.window = []
        self.many_laid = 0
        self.many_kept = 0
        self.following = 0
        self.ifs = 0
        self.writers = (None,) * REGISTERS

    def moment(self):
        """All that changes in a run, as it is now; two runs go on alike behind like moments."""
        window = tuple([item.told() for item in self.window])
        counts = (self.many_laid, self.many_kept, self.following, self.ifs)
        return window, counts, self.writers, self.state_now()

    def go_back(self, moment):
        """Lets all be again as it was at a moment of this run."""
        window, counts, self.writers, state = moment
        self.window = [Laid(*told) for told in window]
        self.many_laid, self.many_kept, self.following, self.ifs = counts
        self.store = Store(state)

    def state_now(self):
        """The state as it stands."""
        return self.store.told()

    def out(self):
        """How many are out and were not thrown away."""
        return self.many_kept - len(self.window)

    def at_end(self):
        """Whether the end is next."""
        return self.following == len(self.program)

    def is_over(self):
        """Whether the run has ended."""
        return self.at_end() and not self.window

    def at(self, place):
        """The one in the window that has a place, or None."""
        for item in self.window:
            if item.place == place:
                return item
        return None

    def done_at(self, place):
        """The number of the last event of a place that is not thrown away."""
        if place >= self.many_laid:
            return NOT_LAID
        item = self.at(place)
        return OUT if item is None else item.done

    def may(self, later, event):
        """Whether the table lets an instruction do an event."""
        for earlier in self.window:
            if earlier.place < later.place and self.holds_back(earlier, later, event):
                return False
        return True

    def holds_back(self, earlier, later, event):
        """Whether an entry of the table lets an instruction wait for an earlier one."""
        for relation, number in self.rules.get((earlier.kind, later.kind, event), ()):
            if earlier.done < number and holds(relation, earlier, later):
                return True
        return False

    def following_one(self):
        """The instruction that is next, as it is to be laid."""
        number = self.following
        return Laid(self.program[number], number, self.many_laid, self.many_kept, self.writers)

    def can_lay(self):
        """Whether the next instruction can be laid."""
        if self.at_end() or len(self.window) >= self.width:
            return False
        return self.may(self.following_one(), "lay")

    def can_go_on(self, item):
        """Whether the next event of one in the window can come."""
        event = item.coming()
        if event == "out" and self.inorder and self.window[0].place != item.place:
            return False
        return self.may(item, event)

    def can_come(self, value):
        """Whether a value is an event that can come."""
        if value == LAY:
            return self.can_lay()
        if not isinstance(value, tuple) or len(value) != 2 or not is_integer(value[1]):
            return False
        return value == self.step_of(value[1])

    def step_of(self, place):
        """The next event of a place, if it can come, otherwise None."""
        item = self.at(place)
        if item is None or not self.can_go_on(item):
            return None
        return (item.coming(), place)

    def steps(self):
        """All events that can come but that of laying, by their places, ascending."""
        return [(item.coming(), item.place) for item in self.window if self.can_go_on(item)]

    def events(self):
        """All events that can come: that of laying first, then those of the places."""
        return ([LAY] if self.can_lay() else []) + self.steps()

    def do(self, event):
        """Does an event that can come."""
        if event == LAY:
            self.lay()
            return
        item = self.at(event[1])
        item.done += 1
        if event[0] == "read":
            self.read(item)
        elif event[0] == "make":
            self.make(item)
        elif event[0] == home_among(self.homes, item.kind):
            self.settle(item)
        if item.done == OUT:
            self.window.remove(item)

    def lay(self):
        """Lays the next instruction."""
        item = self.following_one()
        self.following = item.number + 1
        if item.kind == "if":
            goal = item.instruction[2]
            many = len(self.program)
            item.guess = guessed(self.guesser, self.ifs, goal, self.following, many)
            self.following = item.guess
            self.ifs += 1
        written = register_written(item.instruction)
        if written is not None:
            self.writers = self.writers[:written] + (item.place,) + self.writers[written + 1:]
        self.window.append(item)
        self.many_laid += 1
        self.many_kept += 1

    def read(self, item):
        """Takes the words of the registers that an instruction uses."""
        used = registers_used(item.instruction)
        item.words = tuple([self.word_for(item, number) for number in used])
        if item.kind in ("get", "put"):
            item.cell = cell_told(item.instruction, item.words)

    def word_for(self, item, number):
        """The word that an instruction reads from the register of this number."""
        if self.hands:
            writer = self.at(item.writers[number])
            if writer is not None and writer.done >= MADE:
                return writer.made
        return self.store.registers[number]

    def make(self, item):
        """Makes the result of an instruction that writes, and decides an if."""
        if item.kind in WRITING_KINDS:
            item.made = result(self.store, item.instruction, item.words)
        elif item.kind == "if":
            right = item.instruction[2] if item.words[0] == 0 else item.number + 1
            if right != item.guess:
                self.throw_behind(item)
                self.following = right

    def throw_behind(self, item):
        """Throws away all that were laid behind an instruction that writes no register."""
        self.window = [other for other in self.window if other.place <= item.place]
        self.many_kept = item.ahead + 1
        self.writers = item.writers

    def settle(self, item):
        """Lets an instruction have its effect on the state."""
        if item.kind == "put":
            self.store.cells[item.cell] = item.words[1]
        elif item.kind == "show":
            self.store.show(item.words[0])
        else:
            self.store.registers[register_written(item.instruction)] = item.made


def rules_of(table):
    """What the entries of a table ask for, by the two kinds and the event that they hold back."""
    rules = {}
    for relation, kind, other, done, event in table:
        rules.setdefault((kind, other, event), []).append((relation, EVENTS.index(done)))
    return rules
