"""Which designs are right: their needs, what forces these, and rows that show what is missing."""

from windowbelt.designs import check_design, check_entry, event_number, home_among, tabled
from windowbelt.errors import NotMade
from windowbelt.guessers import NEXT
from windowbelt.hands import pressing_row
from windowbelt.pairs import program_and_state
from windowbelt.plain import MOST_DONE, after
from windowbelt.programs import KINDS, WRITING_KINDS
from windowbelt.relations import can_hold, holds_for_all, share_memory
from windowbelt.windows import belt_behind


def needs(design):
    """The ascending tuple of the needs of a design (BadDesign)."""
    check_design(design)
    return needs_of(design)


def is_forced(design, entry):
    """Whether an entry is forced in a design (BadDesign, BadEntry)."""
    check_design(design)
    check_entry(entry)
    return forced_in(design, entry)


def missing(design):
    """The ascending tuple of the needs that are not forced in a design (BadDesign)."""
    check_design(design)
    return missing_in(design)


def is_right(design):
    """Whether a design is right (BadDesign)."""
    check_design(design)
    return len(missing_in(design)) == 0


def least_table(design):
    """The ascending tuple of the entries that a right table has at least (BadDesign)."""
    check_design(design)
    open_needs = missing_in(tabled(design, ()))
    return tuple([need for need in open_needs if not forced_by_another(design, open_needs, need)])


def shows(design, program, state, guesser, row):
    """Whether a row shows that a design is wrong.

    BadDesign, BadProgram, BadState, BadGuesser, BadRow.
    """
    belt = belt_behind(design, program, state, guesser, row)
    last, following, done = after(program, state, MOST_DONE)
    if not belt.is_over() or following < len(program):
        return False
    return (belt.state_now(), belt.out()) != (last, done)


def shown(design, need):
    """(program, state, guesser, row) that shows a missing need (BadDesign, BadEntry, NotMade)."""
    check_design(design)
    check_entry(need)
    if need not in missing_in(design):
        raise NotMade("no missing need")
    return shown_by_pressing(design, need)


def first_shown(design):
    """What shown tells of the least missing need, None if the design is right (BadDesign)."""
    check_design(design)
    lacking = missing_in(design)
    return shown_by_pressing(design, lacking[0]) if lacking else None


def shown_by_pressing(design, need):
    """What shown tells of a need that is missing in a sound design."""
    program, state = program_and_state(need)
    return program, state, NEXT, pressing_row(design, program, state, NEXT, need[4])


def needs_of(design):
    """The needs of a sound design."""
    homes = design[3]
    made = "make" if design[2] else homes[0]
    found = register_needs(made, homes[0]) + memory_needs(homes[1])
    found.append(("shows", "show", "show", homes[2], homes[2]))
    for kind in KINDS:
        if kind != "if":
            found.append(("jump", "if", kind, "make", home_among(homes, kind)))
    return tuple(sorted(found))


def register_needs(made, home):
    """The needs about registers: made is the event that a reader waits for, home their home."""
    found = []
    for writing in WRITING_KINDS:
        for kind in KINDS:
            if kind != "set":
                found.append(("feeds", writing, kind, made, "read"))
                found.append(("used", kind, writing, "read", home))
        for other in WRITING_KINDS:
            found.append(("same", writing, other, home, home))
    return found


def memory_needs(home):
    """The needs about cells, their home being this."""
    return [
        ("cells", "put", "get", home, "make"),
        ("cells", "get", "put", "make", home),
        ("cells", "put", "put", home, home),
    ]


def missing_in(design):
    """The needs that are not forced in a sound design."""
    return tuple([need for need in needs_of(design) if not forced_in(design, need)])


def forced_by_another(design, open_needs, need):
    """Whether a need is forced by another one of some, alone in the table of a design."""
    return any([
        other != need and forced_in(tabled(design, (other,)), need) for other in open_needs
    ])


def forced_in(design, entry):
    """Whether a sound entry is forced in a sound design."""
    width, inorder = design[:2]
    if width == 1 or (inorder and entry[4] == "out"):
        return True
    if not can_hold(entry[0], entry[1], entry[2]):
        return True
    return any([forces(other, entry) for other in design[4]])


def forces(other, entry):
    """Whether one entry of a table forces an entry that can hold."""
    relation, kind, later_kind, done, event = entry
    if other[1:3] != (kind, later_kind) or event_number(other[4]) > event_number(event):
        return False
    if other[0] == "cells" and share_memory(kind, later_kind):
        # As long as the earlier one has not read, its cell may be the later one's, and the later
        # one waits for an event that is never ahead of the earlier one's "read".
        if done == "read":
            return True
        covers = relation == "cells" or other[4] in ("lay", "read")
    else:
        covers = other[0] == relation or holds_for_all(other[0], kind, later_kind)
    return covers and event_number(other[3]) >= event_number(done)
