"""What the lines of texts and those of a desk share."""

from windowbelt.errors import NotText

# Each number that can stand in a line has fewer digits than so many.
MANY_DIGITS = 10


def check_text(value):
    """Raises NotText for a value that is no string."""
    if not isinstance(value, str):
        raise NotText("no string")


def line_of(items):
    """The line of some words and numbers, one space between."""
    return " ".join([str(item) for item in items])


def yes_or_no(value):
    """The word for True or False."""
    return "yes" if value else "no"


def number_told(word):
    """The number that a word writes without a needless 0, None if it writes none.

    One too long to stand in any line is told by its first digits, which are still too great.
    """
    if not word.isascii() or not word.isdigit():
        return None
    if word != "0" and word.startswith("0"):
        return None
    # Python itself refuses to read a number of some thousand digits.
    return int(word[:MANY_DIGITS])
