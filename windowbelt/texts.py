"""Texts of programs and designs: a line for each instruction, a line for each part of a design."""

from windowbelt.designs import HOME_EVENTS, MOST_WIDTH, check_design, is_entry
from windowbelt.errors import InvalidText
from windowbelt.lines import check_text, line_of, number_told, yes_or_no
from windowbelt.programs import MOST_INSTRUCTIONS, check_program, is_instruction_among


def write_program(program):
    """The text of a program (BadProgram)."""
    check_program(program)
    return "\n".join([line_of(instruction) for instruction in program])


def read_program(text):
    """The program of a text (NotText, InvalidText)."""
    check_text(text)
    lines = lines_of(text)
    program = []
    for number, line in enumerate(lines, start=1):
        instruction = instruction_told(line)
        if number > MOST_INSTRUCTIONS or not is_instruction_among(instruction, len(lines)):
            raise InvalidText(number)
        program.append(instruction)
    return tuple(program)


def write_design(design):
    """The text of a design (BadDesign)."""
    check_design(design)
    width, inorder, hands, homes, table = design
    head = [
        ("width", width),
        ("inorder", yes_or_no(inorder)),
        ("hands", yes_or_no(hands)),
        ("homes",) + homes,
    ]
    return "\n".join([line_of(items) for items in head + list(table)])


def read_design(text):
    """The design of a text (NotText, InvalidText)."""
    check_text(text)
    lines = lines_of(text)
    heads = head_lines()
    found = []
    for number, head in enumerate(heads, start=1):
        if number > len(lines) or lines[number - 1] not in head:
            raise InvalidText(number)
        found.append(head[lines[number - 1]])
    table = table_told(lines[len(heads):], len(heads) + 1)
    return tuple(found) + (table,)


def lines_of(text):
    """The lines of a text; the empty one has none."""
    return text.split("\n") if text else []


def instruction_told(line):
    """What a line tells as an instruction, which may be none."""
    word, *numbers = line.split(" ")
    return (word,) + tuple([number_told(told) for told in numbers])


def head_lines():
    """For each of the first four lines of a design, all that can stand there and what it tells."""
    homes = [
        (one, other, third)
        for one in HOME_EVENTS for other in HOME_EVENTS for third in HOME_EVENTS
    ]
    return [
        {line_of(("width", width)): width for width in range(1, MOST_WIDTH + 1)},
        {line_of(("inorder", yes_or_no(told))): told for told in (True, False)},
        {line_of(("hands", yes_or_no(told))): told for told in (True, False)},
        {line_of(("homes",) + events): events for events in homes},
    ]


def table_told(lines, first):
    """The table that lines tell; the first of them has this number in its text (InvalidText)."""
    table = []
    for number, line in enumerate(lines, start=first):
        entry = tuple(line.split(" "))
        if not is_entry(entry) or (table and entry <= table[-1]):
            raise InvalidText(number)
        table.append(entry)
    return tuple(table)
