"""What the checks of all arguments share."""


def is_integer(value):
    """Whether a value is an integer; True and False are none here."""
    return isinstance(value, int) and not isinstance(value, bool)


def is_from_to(value, least, most):
    """Whether a value is an integer from least to most."""
    return is_integer(value) and least <= value <= most
