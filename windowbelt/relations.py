"""Relations: what holds between an earlier and a later instruction in a window."""

from windowbelt.programs import WRITING_KINDS, register_written, registers_used

RELATIONS = ("feeds", "used", "same", "cells", "memory", "shows", "jump", "any")


def share_memory(kind, other):
    """Whether one of two kinds is put, the other one get or put."""
    return (kind, other) in (("put", "get"), ("get", "put"), ("put", "put"))


def can_hold(relation, kind, other):
    """Whether a relation can hold for an earlier one of a kind and a later one of the other."""
    if relation == "feeds":
        return kind in WRITING_KINDS and other != "set"
    if relation == "used":
        return kind != "set" and other in WRITING_KINDS
    if relation == "same":
        return kind in WRITING_KINDS and other in WRITING_KINDS
    if relation == "cells":
        return share_memory(kind, other)
    return holds_for_all(relation, kind, other)


def holds_for_all(relation, kind, other):
    """Whether a relation holds for all instructions of these kinds, whatever their numbers."""
    if relation == "memory":
        return share_memory(kind, other)
    if relation == "shows":
        return kind == "show" and other == "show"
    if relation == "jump":
        return kind == "if"
    return relation == "any"


def holds(relation, earlier, later):
    """Whether a relation holds just then between two instructions of a run."""
    first = earlier.instruction
    second = later.instruction
    if not can_hold(relation, first[0], second[0]):
        return False
    if relation == "feeds":
        return earlier.place in later.sources()
    if relation == "used":
        return register_written(second) in registers_used(first)
    if relation == "same":
        return register_written(first) == register_written(second)
    if relation == "cells":
        return may_meet(earlier.cell, later.cell)
    return True


def may_meet(cell, other):
    """Whether two cells are not surely unlike; None is one that is not read yet."""
    return cell is None or other is None or cell == other
