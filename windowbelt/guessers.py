"""Guessers: which instruction is taken to come behind an if when it is laid."""

from windowbelt.errors import BadGuesser
from windowbelt.values import is_from_to

NEXT = ("next",)
GOAL = ("goal",)
MOST_GUESSES = 30
GREATEST_GUESS = 40


def is_guesser(value):
    """Whether a value is a guesser."""
    if not isinstance(value, tuple):
        return False
    if value == NEXT or value == GOAL:
        return True
    return len(value) == 2 and value[0] == "row" and are_guesses(value[1])


def are_guesses(value):
    """Whether a value is a tuple of numbers that a guesser may have."""
    if not isinstance(value, tuple) or not 1 <= len(value) <= MOST_GUESSES:
        return False
    return all([is_from_to(number, 0, GREATEST_GUESS) for number in value])


def check_guesser(value):
    """Raises BadGuesser for a value that is no guesser."""
    if not is_guesser(value):
        raise BadGuesser("no guesser")


def guessed(guesser, counted, goal, following, many):
    """The number of the instruction that a guesser tells to come behind an if.

    counted ifs were laid ahead of it, following is the one behind it, and the program has many.
    """
    if guesser == NEXT:
        return following
    if guesser == GOAL:
        return goal
    numbers = guesser[1]
    return numbers[counted % len(numbers)] % (many + 1)
