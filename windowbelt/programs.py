"""Instructions and programs: their form, and the registers that they write and use."""

from windowbelt.errors import BadInstruction, BadProgram
from windowbelt.values import is_from_to

MOST_INSTRUCTIONS = 40

KINDS = ("set", "sum", "get", "put", "if", "show")

# The greatest number at each place behind the word of a kind; a goal's is MOST_INSTRUCTIONS.
GREATEST = {
    "set": (7, 255),
    "sum": (7, 7, 7, 255),
    "get": (7, 7, 7),
    "put": (7, 7, 7),
    "if": (7, 40),
    "show": (7,),
}

WRITING_KINDS = ("set", "sum", "get")

# The places in an instruction of the registers that it uses: a ahead of b, also in a put.
USED_PLACES = {
    "set": (),
    "sum": (2, 3),
    "get": (2,),
    "put": (2, 1),
    "if": (1,),
    "show": (1,),
}


def kind_pairs():
    """All pairs of kinds, ascending."""
    kinds = sorted(KINDS)
    return [(kind, other) for kind in kinds for other in kinds]


def is_instruction(value):
    """Whether a value is an instruction, with a goal, if it has one, from 0 to 40."""
    return is_instruction_among(value, MOST_INSTRUCTIONS)


def is_instruction_among(value, many):
    """Whether a value is an instruction that can stand in a program of so many."""
    if not isinstance(value, tuple) or len(value) == 0:
        return False
    kind = value[0]
    # Only a string is looked up: a list or a dict cannot be a key.
    if not isinstance(kind, str) or kind not in GREATEST:
        return False
    greatest = GREATEST[kind]
    if len(value) != 1 + len(greatest):
        return False
    if not all([is_from_to(number, 0, top) for number, top in zip(value[1:], greatest)]):
        return False
    return kind != "if" or value[2] <= many


def check_instruction(value):
    """Raises BadInstruction for a value that is no instruction."""
    if not is_instruction(value):
        raise BadInstruction("no instruction")


def check_program(value):
    """Raises BadProgram for a value that is no program."""
    if not isinstance(value, tuple) or len(value) > MOST_INSTRUCTIONS:
        raise BadProgram(None)
    for index, item in enumerate(value):
        if not is_instruction_among(item, len(value)):
            raise BadProgram(index)


def written_by(instruction):
    """The register that an instruction writes, or None (BadInstruction)."""
    check_instruction(instruction)
    return register_written(instruction)


def used_by(instruction):
    """The tuple of the registers that an instruction uses (BadInstruction)."""
    check_instruction(instruction)
    return registers_used(instruction)


def register_written(instruction):
    """The register that a sound instruction writes, or None."""
    if instruction[0] in WRITING_KINDS:
        return instruction[1]
    return None


def registers_used(instruction):
    """The tuple of the registers that a sound instruction uses."""
    return tuple([instruction[place] for place in USED_PLACES[instruction[0]]])
