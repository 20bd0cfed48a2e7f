"""The plain machine: one instruction after another."""

from windowbelt.errors import BadNumber, TooLong
from windowbelt.programs import check_program, register_written, registers_used
from windowbelt.states import CELLS, WORDS, Store, check_state
from windowbelt.values import is_from_to

MOST_DONE = 500


def ran(program, state, most):
    """(state, next, done) behind most instructions, or fewer, if the program ends.

    BadProgram, BadState, BadNumber.
    """
    check_program(program)
    check_state(state)
    if not is_from_to(most, 0, MOST_DONE):
        raise BadNumber("no number from 0 to 500")
    return after(program, state, most)


def ended(program, state):
    """(state, done) where the program ends (BadProgram, BadState, TooLong)."""
    check_program(program)
    check_state(state)
    last, coming, done = after(program, state, MOST_DONE)
    if coming < len(program):
        raise TooLong(MOST_DONE)
    return last, done


def after(program, state, most):
    """What ran tells, of sound arguments."""
    store = Store(state)
    coming = 0
    done = 0
    while done < most and coming < len(program):
        coming = step(store, program[coming], coming)
        done += 1
    return store.told(), coming, done


def step(store, instruction, number):
    """Does the instruction of this number in the store; the number of the next one."""
    kind = instruction[0]
    words = [store.registers[a] for a in registers_used(instruction)]
    if kind == "if":
        return instruction[2] if words[0] == 0 else number + 1
    if kind == "put":
        store.cells[cell_told(instruction, words)] = words[1]
    elif kind == "show":
        store.show(words[0])
    else:
        store.registers[register_written(instruction)] = result(store, instruction, words)
    return number + 1


def result(store, instruction, words):
    """The word that a writing instruction writes, the words it uses being these."""
    kind = instruction[0]
    if kind == "get":
        return store.cells[cell_told(instruction, words)]
    if kind == "sum":
        return (words[0] + words[1] + instruction[4]) % WORDS
    return instruction[2]


def cell_told(instruction, words):
    """The number of the cell of a get or put, the words it uses being these."""
    return (words[0] + instruction[3]) % CELLS
