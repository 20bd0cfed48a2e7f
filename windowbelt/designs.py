"""Designs of a window: its events, the entries of its table, and its homes."""

from windowbelt.errors import BadDesign, BadEntry, BadEvent, BadKind, BadTable
from windowbelt.programs import KINDS, WRITING_KINDS
from windowbelt.relations import RELATIONS, can_hold
from windowbelt.values import is_from_to

EVENTS = ("lay", "read", "make", "write", "out")
EVENTS_BUT_LAY = ("read", "make", "write", "out")
HOME_EVENTS = ("write", "out")
MOST_WIDTH = 4


def event_number(event):
    """The number of an event: 0 for "lay", up to 4 for "out" (BadEvent)."""
    if event not in EVENTS:
        raise BadEvent("no event")
    return EVENTS.index(event)


def is_entry(value):
    """Whether a value is an entry of a table."""
    if not isinstance(value, tuple) or len(value) != 5:
        return False
    relation, kind, other, done, event = value
    return (
        relation in RELATIONS
        and kind in KINDS
        and other in KINDS
        and done in EVENTS_BUT_LAY
        and event in EVENTS
    )


def check_entry(value):
    """Raises BadEntry for a value that is no entry."""
    if not is_entry(value):
        raise BadEntry("no entry")


def may_hold(entry):
    """Whether the relation of an entry can hold for instructions of its kinds (BadEntry)."""
    check_entry(entry)
    return can_hold(entry[0], entry[1], entry[2])


def is_table(value):
    """Whether a value is an ascending tuple of unlike entries."""
    if not isinstance(value, tuple) or not all([is_entry(item) for item in value]):
        return False
    return all([one < other for one, other in zip(value, value[1:])])


def are_homes(value):
    """Whether a value is a tuple of three events, each of them write or out."""
    if not isinstance(value, tuple) or len(value) != 3:
        return False
    return all([event in HOME_EVENTS for event in value])


def is_design(value):
    """Whether a value is a design."""
    if not isinstance(value, tuple) or len(value) != 5:
        return False
    width, inorder, hands, homes, table = value
    return (
        is_from_to(width, 1, MOST_WIDTH)
        and isinstance(inorder, bool)
        and isinstance(hands, bool)
        and are_homes(homes)
        and is_table(table)
    )


def check_design(value):
    """Raises BadDesign for a value that is no design."""
    if not is_design(value):
        raise BadDesign("no design")


def home_of(design, kind):
    """The event at which an instruction of a kind has its effect, or None (BadDesign, BadKind)."""
    check_design(design)
    if kind not in KINDS:
        raise BadKind("no kind")
    return home_among(design[3], kind)


def home_among(homes, kind):
    """The event at which an instruction of a sound kind has its effect, or None."""
    if kind in WRITING_KINDS:
        return homes[0]
    if kind == "put":
        return homes[1]
    if kind == "show":
        return homes[2]
    return None


def with_table(design, table):
    """The design with another table (BadDesign, BadTable)."""
    check_design(design)
    if not is_table(table):
        raise BadTable("no table")
    return tabled(design, table)


def tabled(design, table):
    """A sound design with another sound table."""
    return design[:4] + (table,)
