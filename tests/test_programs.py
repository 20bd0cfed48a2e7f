"""Points 2 and 3: instructions, programs, and the registers written and used."""

import unittest

from tests.samples import NO_INTEGERS, NO_TUPLES, STATE
from windowbelt.errors import BadInstruction, BadProgram
from windowbelt.plain import ended, ran
from windowbelt.programs import is_instruction, used_by, written_by

# An instruction of each kind, and the greatest number at each of its places.
GREATEST = (
    ("set", (7, 255)),
    ("sum", (7, 7, 7, 255)),
    ("get", (7, 7, 7)),
    ("put", (7, 7, 7)),
    ("if", (7, 40)),
    ("show", (7,)),
)
WRONG_NUMBERS = NO_INTEGERS + (-1, 10 ** 30, -(10 ** 30))
NO_INSTRUCTIONS = NO_TUPLES + (
    (),
    ("hop", 1), ("", 1), ("SET", 0, 1), ("set ", 0, 1), ("jump", 0, 0),
    (True, 0, 1), (None, 0, 1), (0, 0, 1), (("set",), 0, 1), (["set"], 0, 1), ({}, 0, 1),
    ("set",), ("set", 0), ("set", 0, 1, 2), ("sum", 0, 1, 2), ("sum", 0, 1, 2, 3, 4),
    ("get", 0, 1), ("get", 0, 1, 2, 3), ("put", 0, 1), ("put", 0, 1, 2, 3),
    ("if", 0), ("if", 0, 0, 0), ("show",), ("show", 0, 0),
    ["set", 0, 1], {"set": 0}, (("set", 0, 1),),
)


def numbered(kind, numbers):
    return (kind,) + tuple(numbers)


class IsInstruction(unittest.TestCase):
    def test_example(self):
        self.assertEqual(
            [
                is_instruction(("sum", 0, 1, 2, 3)), written_by(("get", 3, 0, 1)),
                written_by(("put", 3, 0, 1)), used_by(("put", 3, 0, 1)),
                used_by(("sum", 0, 1, 2, 3)),
            ],
            [True, 3, None, (0, 3), (1, 2)],
        )

    def test_least_and_greatest_numbers(self):
        for kind, greatest in GREATEST:
            with self.subTest(kind):
                self.assertIs(is_instruction(numbered(kind, greatest)), True)
                self.assertIs(is_instruction(numbered(kind, (0,) * len(greatest))), True)

    def test_each_number_beyond_its_limit(self):
        for kind, greatest in GREATEST:
            for place, top in enumerate(greatest):
                numbers = list(greatest)
                numbers[place] = top + 1
                with self.subTest(kind, place=place):
                    self.assertIs(is_instruction(numbered(kind, numbers)), False)

    def test_each_number_wrong(self):
        for kind, greatest in GREATEST:
            for place in range(len(greatest)):
                for wrong in WRONG_NUMBERS:
                    numbers = [0] * len(greatest)
                    numbers[place] = wrong
                    with self.subTest(kind, place=place, wrong=wrong):
                        self.assertIs(is_instruction(numbered(kind, numbers)), False)

    def test_no_instructions(self):
        for value in NO_INSTRUCTIONS:
            with self.subTest(value=value):
                self.assertIs(is_instruction(value), False)


class WrittenAndUsed(unittest.TestCase):
    def test_written_by(self):
        for instruction, register in (
            (("set", 3, 200), 3), (("sum", 4, 1, 2, 9), 4), (("get", 0, 1, 2), 0),
            (("put", 1, 2, 3), None), (("if", 1, 2), None), (("show", 5), None),
        ):
            with self.subTest(instruction=instruction):
                self.assertEqual(written_by(instruction), register)

    def test_used_by(self):
        for instruction, registers in (
            (("set", 3, 200), ()), (("sum", 4, 1, 2, 9), (1, 2)), (("sum", 4, 2, 1, 9), (2, 1)),
            (("sum", 4, 5, 5, 9), (5, 5)), (("get", 0, 1, 2), (1,)), (("put", 1, 2, 3), (2, 1)),
            (("put", 6, 6, 3), (6, 6)), (("if", 1, 2), (1,)), (("show", 5), (5,)),
        ):
            with self.subTest(instruction=instruction):
                self.assertEqual(used_by(instruction), registers)

    def test_goals_up_to_40(self):
        self.assertEqual([written_by(("if", 7, 40)), used_by(("if", 7, 40))], [None, (7,)])
        for tell in (written_by, used_by):
            with self.assertRaises(BadInstruction):
                tell(("if", 7, 41))

    def test_no_instructions(self):
        for tell in (written_by, used_by):
            for value in NO_INSTRUCTIONS + (("set", True, 1), ("set", 8, 1), ("show", -1)):
                with self.subTest(tell.__name__, value=value):
                    with self.assertRaises(BadInstruction):
                        tell(value)


class Programs(unittest.TestCase):
    """Programs are asked for by ran and ended alike."""

    def assert_bad(self, program, index):
        for call in (lambda: ran(program, STATE, 0), lambda: ended(program, STATE)):
            with self.assertRaises(BadProgram) as caught:
                call()
            self.assertEqual(caught.exception.index, index)
            self.assertNotIsInstance(caught.exception.index, bool)

    def test_no_tuples(self):
        for value in NO_TUPLES + ([("show", 0)], {"show": 0}):
            with self.subTest(value=value):
                self.assert_bad(value, None)

    def test_40_and_41_items(self):
        self.assertEqual(ended((("show", 0),) * 40, STATE)[1], 40)
        self.assert_bad((("show", 0),) * 41, None)

    def test_the_number_of_items_stands_ahead_of_a_wrong_item(self):
        self.assert_bad((None,) * 41, None)

    def test_the_first_wrong_item_is_told(self):
        good = ("show", 0)
        for value in NO_INSTRUCTIONS:
            with self.subTest(value=value):
                self.assert_bad((value,), 0)
                self.assert_bad((good, good, value, good, value), 2)
        self.assert_bad((good,) * 39 + (None,), 39)

    def test_an_instruction_alone_is_no_program(self):
        self.assert_bad(("show", 0), 0)

    def test_goals_from_0_to_the_number_of_instructions(self):
        for many in (1, 2, 3, 39, 40):
            sound = (("set", 0, 1),) * (many - 1)
            with self.subTest(many=many):
                self.assertEqual(ran(sound + (("if", 1, 0),), STATE, many)[1:], (0, many))
                self.assertEqual(ended(sound + (("if", 1, many),), STATE)[1], many)
                self.assert_bad(sound + (("if", 1, many + 1),), many - 1)
                self.assert_bad(sound + (("if", 1, -1),), many - 1)

    def test_a_goal_is_no_truth(self):
        for goal in (True, False):
            self.assert_bad((("if", 0, goal),), 0)


if __name__ == "__main__":
    unittest.main()
