"""States: the registers, the cells, and the words shown so far."""

from windowbelt.errors import BadState
from windowbelt.values import is_from_to

REGISTERS = 8
CELLS = 8
MOST_SHOWN = 500
WORDS = 256


def are_words(value, least, most):
    """Whether a value is a tuple of words, at least and at most so many."""
    if not isinstance(value, tuple) or not least <= len(value) <= most:
        return False
    return all([is_from_to(word, 0, WORDS - 1) for word in value])


def is_state(value):
    """Whether a value is a state that may be given."""
    if not isinstance(value, tuple) or len(value) != 3:
        return False
    registers, cells, shown = value
    return (
        are_words(registers, REGISTERS, REGISTERS)
        and are_words(cells, CELLS, CELLS)
        and are_words(shown, 0, MOST_SHOWN)
    )


def check_state(value):
    """Raises BadState for a value that is no state."""
    if not is_state(value):
        raise BadState("no state")


class Store:
    """A state whose words can be changed, apart from the state that it begins with."""

    def __init__(self, state):
        registers, cells, shown = state
        self.registers = list(registers)
        self.cells = list(cells)
        self.shown = shown

    def show(self, word):
        """Shows a word."""
        self.shown = self.shown + (word,)

    def told(self):
        """The state that it holds now; it may have any number of words shown."""
        return (tuple(self.registers), tuple(self.cells), self.shown)
