"""Point 13: whole runs, whose hand is told by numbers."""

import copy
import random
import unittest

from tests.samples import (
    ALL_HOMES, DESIGN, GOAL, NEXT, NO_INTEGERS, NO_TUPLES, STATE, design_of, row_of, state_of,
    whole,
)
from windowbelt.errors import BadNumber, TooLong
from windowbelt.plain import ended
from windowbelt.windows import events_behind, has_ended, run, stand

PROGRAM = (("set", 1, 5), ("sum", 2, 1, 1, 0))
SHOW = ("show", 0)


def doing(many):
    """A program that ends behind so many instructions, from 116 on."""
    loop = (("set", 1, 256 - 39), ("sum", 1, 1, 7, 1), ("if", 1, 4), ("if", 7, 1))
    return loop + (SHOW,) * (many - 117)


class Runs(unittest.TestCase):
    def test_the_first_event_again_and_again(self):
        state, done, row = run(DESIGN, PROGRAM, STATE, NEXT, (0,))
        self.assertEqual((state, done), (state_of((0, 5, 10)), 2))
        self.assertEqual(row, row_of(f"lay lay {whole(0)} {whole(1)}"))

    def test_picks(self):
        # Ahead of these picks can come: lay; lay r0; lay m0; m0 r1; m0 m1; m0 w1; w0 w1; ...
        state, done, row = run(DESIGN, PROGRAM, STATE, NEXT, (0, 1, 0, 1, 1, 0, 5))
        self.assertEqual(row, row_of("lay r0 lay r1 m1 m0 w1 w0 o1 o0"))
        self.assertEqual((state, done), (state_of((0, 5, 0)), 2))

    def test_the_rest_by_the_number_of_events(self):
        for numbers in ((0, 1, 0), (2, 3, 4), (10, 5, 200), (10 ** 30 * 12, 1, 12)):
            told = run(DESIGN, PROGRAM, STATE, NEXT, numbers)[2]
            self.assertEqual(told[:3], row_of("lay r0 lay"))

    def test_the_numbers_are_taken_again_and_again(self):
        for numbers in ((1,), (1, 2), (3, 0, 2), (5, 1, 4, 2, 0, 3, 7)):
            long = (numbers * 50)[:len(numbers) * (50 // len(numbers))]
            self.assertEqual(
                run(DESIGN, PROGRAM, STATE, NEXT, numbers),
                run(DESIGN, PROGRAM, STATE, NEXT, long),
            )

    def test_the_row_is_picked_by_the_numbers(self):
        program = (("set", 1, 2), ("if", 0, 4), ("show", 1), ("show", 0), ("put", 1, 1, 1), SHOW)
        numbers = (4, 1, 0, 7, 2, 3, 11, 5, 6)
        for design in (DESIGN, design_of(), design_of(inorder=True, width=3)):
            state, done, row = run(design, program, STATE, ("row", (2, 3)), numbers)
            for k, event in enumerate(row):
                can = events_behind(design, program, STATE, ("row", (2, 3)), row[:k])
                self.assertEqual(event, can[numbers[k % 9] % len(can)])
                self.assertFalse(has_ended(design, program, STATE, ("row", (2, 3)), row[:k]))
            told = stand(design, program, STATE, ("row", (2, 3)), row)
            self.assertEqual(told, (state, 6, done, ()))
            self.assertTrue(has_ended(design, program, STATE, ("row", (2, 3)), row))

    def test_done_leaves_out_those_thrown_away(self):
        program = (("if", 0, 3), ("show", 1), ("show", 2), ("show", 3))
        numbers = (0, 0, 1, 1, 1, 1, 0)
        state, done, row = run(design_of(width=2), program, state_of((0, 7, 8, 9)), NEXT, numbers)
        self.assertEqual(row[:6], row_of(f"lay lay {whole(1)}"))
        self.assertIn(("out", 1), row)
        self.assertEqual(done, 2)
        self.assertEqual(state[2][0], 7)

    def test_empty_program(self):
        state = state_of((1, 2), (3,), (4,))
        self.assertEqual(run(DESIGN, (), state, NEXT, (0,)), (state, 0, ()))

    def test_answers_are_tuples(self):
        told = run(DESIGN, PROGRAM, STATE, NEXT, (0,))
        self.assertEqual([type(part) for part in told], [tuple, int, tuple])
        self.assertEqual([type(event) for event in told[2]], [tuple] * 10)
        self.assertEqual([type(part) for part in told[0]], [tuple] * 3)

    def test_width_1_is_the_plain_machine(self):
        source = random.Random(1)
        program = (
            ("set", 0, 250), ("sum", 0, 0, 7, 1), ("put", 0, 0, 3), ("get", 1, 0, 3), ("show", 1),
            ("if", 0, 7), ("if", 7, 1), ("show", 0),
        )
        for homes in ALL_HOMES:
            for guesser in (NEXT, GOAL, ("row", (5, 1, 8, 40))):
                design = design_of(width=1, hands=source.random() < 0.5, homes=homes)
                numbers = tuple(source.randrange(9) for _ in range(20))
                state, done, row = run(design, program, STATE, guesser, numbers)
                self.assertEqual((state, done), ended(program, STATE))
                self.assertEqual(len(row), 5 * done)


class Long(unittest.TestCase):
    def test_exactly_600_events(self):
        design = design_of(width=1)
        for many in (117, 119, 120):
            state, done, row = run(design, doing(many), STATE, NEXT, (0,))
            self.assertEqual((done, len(row)), (many, 5 * many))
            self.assertTrue(has_ended(design, doing(many), STATE, NEXT, row))

    def test_not_ended_behind_600_events(self):
        for program, width in (
            (doing(121), 1), ((("if", 0, 0),), 1), ((("if", 0, 0),), 4), ((SHOW, ("if", 0, 0)), 2),
        ):
            for guesser in (NEXT, GOAL):
                with self.assertRaises(TooLong) as caught:
                    run(design_of(width=width), program, STATE, guesser, (0, 1))
                self.assertEqual(vars(caught.exception), {"most": 600})

    def test_events_of_those_thrown_away_count(self):
        # A design of greater width lays what is thrown away later: it does not end behind 600.
        with self.assertRaises(TooLong):
            run(design_of(width=4), doing(120), STATE, NEXT, (0,))


class Numbers(unittest.TestCase):
    def assert_bad(self, numbers):
        for program in ((), PROGRAM, (("if", 0, 0),)):
            with self.assertRaises(BadNumber):
                run(DESIGN, program, STATE, NEXT, numbers)

    def test_1_and_50(self):
        for numbers in ((0,), (7,), (0,) * 50, tuple(range(50)), (10 ** 100,)):
            self.assertEqual(run(DESIGN, PROGRAM, STATE, NEXT, numbers)[1], 2)

    def test_0_and_51(self):
        self.assert_bad(())
        self.assert_bad((0,) * 51)

    def test_no_tuples(self):
        for value in NO_TUPLES + ([0], {0: 0}, range(3)):
            with self.subTest(value=value):
                self.assert_bad(value)

    def test_wrong_items(self):
        for wrong in NO_INTEGERS + (-1, -(10 ** 30)):
            with self.subTest(wrong=wrong):
                self.assert_bad((wrong,))
                self.assert_bad((0, 1, wrong))
                self.assert_bad((wrong,) + (0,) * 49)

    def test_arguments_stay_as_they_are(self):
        for numbers in ([0, 1], (0, [1]), (0, 1)):
            given = (DESIGN, PROGRAM, STATE, ("row", (0, 1)), numbers)
            kept = copy.deepcopy(given)
            try:
                run(*given)
            except BadNumber:
                pass
            self.assertEqual(given, kept)


if __name__ == "__main__":
    unittest.main()
