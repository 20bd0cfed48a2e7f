"""Point 8: guessers, and which instruction they let be next."""

import unittest

from tests.samples import GOAL, NEXT, NO_GUESSERS, STATE, design_of, row_of, state_of
from windowbelt.errors import BadGuesser
from windowbelt.windows import events_behind, has_ended, run, stand

# Four ifs; each of them has its goal at itself.
IFS = tuple(("if", 0, place) for place in range(4))


def next_behind(program, guesser, many, state=STATE):
    """Which instruction is next behind so many events of laying."""
    return stand(design_of(), program, state, guesser, (("lay",),) * many)[1]


class Guessing(unittest.TestCase):
    def test_next(self):
        self.assertEqual([next_behind(IFS, NEXT, many) for many in range(5)], [0, 1, 2, 3, 4])

    def test_goal(self):
        program = (("if", 0, 2), ("show", 0), ("if", 0, 1))
        self.assertEqual([next_behind(program, GOAL, many) for many in range(5)], [0, 2, 1, 2, 1])

    def test_a_row(self):
        guesser = ("row", (2, 0, 3, 1))
        self.assertEqual([next_behind(IFS, guesser, many) for many in range(5)], [0, 2, 0, 3, 1])

    def test_a_row_is_taken_again_and_again(self):
        for numbers in ((3,), (1, 2), (2, 1, 0)):
            told = [next_behind(IFS, ("row", numbers), many) for many in range(1, 5)]
            self.assertEqual(told, [numbers[k % len(numbers)] for k in range(4)])

    def test_the_rest_by_the_number_of_instructions_and_1(self):
        for many in (1, 2, 3, 7, 39, 40):
            program = (("if", 0, 0),) * many
            for number in range(41):
                told = next_behind(program, ("row", (number,)), 1)
                self.assertEqual(told, number % (many + 1), (many, number))

    def test_only_ifs_are_counted(self):
        program = (("show", 0), ("if", 0, 0), ("show", 0), ("if", 0, 0))
        guesser = ("row", (2, 0, 4))
        self.assertEqual(
            [next_behind(program, guesser, many) for many in range(5)], [0, 1, 2, 3, 0]
        )

    def test_ifs_thrown_away_later_are_counted(self):
        # The first if jumps to 3. Two more were laid behind it, and it is the fourth's guess now.
        program = (("if", 0, 3), ("if", 0, 0), ("if", 0, 0), ("if", 1, 0), ("show", 0))
        guesser = ("row", (1, 2, 4, 0))
        row = row_of("lay lay lay r0 m0 lay")
        told = stand(design_of(), program, STATE, guesser, row)
        self.assertEqual(told[1:], (0, 0, ((0, 0, "make"), (3, 3, "lay"))))
        # Without those thrown away it is the second's.
        told = stand(design_of(), program, STATE, guesser, row_of("lay r0 m0 lay"))
        self.assertEqual(told[1], 2)

    def test_a_guess_that_is_the_end(self):
        program = (("if", 0, 1), ("show", 0))
        guesser = ("row", (2, 5))
        self.assertEqual(next_behind(program, guesser, 1), 2)
        told = events_behind(design_of(), program, STATE, guesser, row_of("lay"))
        self.assertEqual(told, row_of("r0"))
        # The guess of the end is wrong for either word of register 0.
        for word in (0, 1):
            told = stand(design_of(), program, state_of((word,)), guesser, row_of("lay r0 m0"))
            self.assertEqual(told[1], 1)

    def test_a_guess_of_the_end_that_is_right(self):
        program = (("if", 0, 2), ("show", 0))
        row = row_of("lay r0 m0 w0 o0")
        self.assertTrue(has_ended(design_of(), program, STATE, ("row", (2,)), row))
        row = row_of("lay lay r0 m0 w0 o0")
        self.assertTrue(has_ended(design_of(), program, STATE, ("next",), row))

    def test_a_guess_of_any_instruction(self):
        # A guess that is neither the next one nor the goal is thrown away in any case.
        program = (("if", 0, 2), ("set", 1, 1), ("set", 2, 2), ("set", 3, 3))
        for word, right in ((0, 2), (1, 1)):
            told = stand(
                design_of(), program, state_of((word,)), ("row", (3,)), row_of("lay lay r0 m0")
            )
            self.assertEqual(told[1:], (right, 0, ((0, 0, "make"),)))


class Sound(unittest.TestCase):
    def test_sound_ones(self):
        for guesser in (
            NEXT, GOAL, ("row", (0,)), ("row", (40,)), ("row", (0,) * 30), ("row", (40, 0) * 15),
        ):
            with self.subTest(guesser=guesser):
                self.assertEqual(next_behind((), guesser, 0), 0)
                self.assertEqual(run(design_of(), (), STATE, guesser, (0,)), (STATE, 0, ()))

    def test_wrong_ones(self):
        for value in NO_GUESSERS:
            with self.subTest(value=value):
                for call in (events_behind, stand, has_ended):
                    with self.assertRaises(BadGuesser):
                        call(design_of(), (), STATE, value, ())
                with self.assertRaises(BadGuesser):
                    run(design_of(), (), STATE, value, (0,))


if __name__ == "__main__":
    unittest.main()
