"""Point 1: wrong arguments of all but the plain machine, and which error stands first."""

import copy
import unittest

from tests.samples import (
    DESIGN, ENTRY, NEXT, NO_DESIGNS, NO_ENTRIES, NO_GUESSERS, NO_PROGRAMS, NO_STATES, NO_TUPLES,
    STATE, WORDS, design_of, row_of, whole,
)
from windowbelt.designs import home_of, with_table
from windowbelt.desks import Desk
from windowbelt.errors import (
    BadBlock, BadDesign, BadEntry, BadGuesser, BadKind, BadNumber, BadProgram, BadRow, BadState,
    BadTable, NotMade, TooLong,
)
from windowbelt.frees import (
    barred_row, count_rows, effective_width, freest, lets_by_all, rounds_of,
)
from windowbelt.rights import (
    first_shown, is_forced, is_right, least_table, missing, needs, shown, shows,
)
from windowbelt.stops import stopped, stops_cleanly, unclean
from windowbelt.texts import write_design
from windowbelt.windows import events_behind, has_ended, run, stand

PROGRAM = (("set", 1, 5), ("sum", 2, 1, 1, 0))
LOOP = (("if", 0, 0),)
NEED = ("feeds", "set", "sum", "make", "read")
OF_ROWS = (events_behind, stand, has_ended, shows, stopped)
OF_RUNS = OF_ROWS + (run,)
OF_GUESSERS = OF_RUNS + (rounds_of, Desk)
OF_DESIGNS = (
    needs, missing, least_table, is_right, first_shown, stops_cleanly, unclean, effective_width,
    freest, write_design,
)
OF_ENTRIES = (is_forced, shown)
OF_TWO = (lets_by_all, barred_row)
RIGHT = freest(design_of())


class Asking(unittest.TestCase):
    def assert_raises(self, kind, call, *arguments, **fields):
        kept = repr(arguments)
        with self.assertRaises(kind) as caught:
            call(*arguments)
        self.assertEqual(vars(caught.exception), fields)
        self.assertEqual(repr(arguments), kept)


class WrongOnes(Asking):
    """One argument is wrong, the others are sound."""

    def given(self, call, place, value):
        """Sound arguments of a call, but for this value at a place."""
        last = {run: ((0,),), rounds_of: (), Desk: ()}.get(call, ((),))
        sound = (DESIGN, PROGRAM, STATE, NEXT) + last
        return sound[:place] + (value,) + sound[place + 1:]

    def test_designs(self):
        for value in NO_DESIGNS:
            with self.subTest(value=value):
                for call in OF_GUESSERS:
                    self.assert_raises(BadDesign, call, *self.given(call, 0, value))
                for call in OF_DESIGNS:
                    self.assert_raises(BadDesign, call, value)
                for call in OF_ENTRIES:
                    self.assert_raises(BadDesign, call, value, NEED)
                for call in OF_TWO:
                    self.assert_raises(BadDesign, call, value, RIGHT)
                    self.assert_raises(BadDesign, call, RIGHT, value)
                self.assert_raises(BadDesign, count_rows, value, (), STATE)

    def test_programs(self):
        wrong = NO_PROGRAMS + tuple((value, None) for value in NO_TUPLES) + (
            ((("show", 0),) * 41, None), (PROGRAM + (["show", 0],), 2),
            ((("if", 0, 2),), 0), ((("set", True, 1),), 0),
        )
        for value, index in wrong:
            with self.subTest(value=value):
                for call in OF_GUESSERS:
                    self.assert_raises(BadProgram, call, *self.given(call, 1, value), index=index)

    def test_states(self):
        wrong = NO_STATES + NO_TUPLES + (
            (WORDS, WORDS, (0,) * 501), (WORDS, WORDS, (True,)), (WORDS, (-1,) + WORDS[1:], ()),
        )
        for value in wrong:
            with self.subTest(value=value):
                for call in OF_GUESSERS:
                    self.assert_raises(BadState, call, *self.given(call, 2, value))
                self.assert_raises(BadState, count_rows, DESIGN, (), value)

    def test_guessers(self):
        for value in NO_GUESSERS:
            with self.subTest(value=value):
                for call in OF_GUESSERS:
                    self.assert_raises(BadGuesser, call, *self.given(call, 3, value))

    def test_entries(self):
        for value in NO_ENTRIES:
            with self.subTest(value=value):
                for call in OF_ENTRIES:
                    self.assert_raises(BadEntry, call, DESIGN, value)


class FirstOnes(Asking):
    """Several arguments are wrong: the error of the one that stands first is raised."""

    def test_windows(self):
        wrong_program = (("show", 0), None)
        for call in OF_RUNS:
            self.assert_raises(BadDesign, call, None, None, None, None, None)
            self.assert_raises(BadDesign, call, 0, wrong_program, STATE, NEXT, ())
            self.assert_raises(BadProgram, call, DESIGN, None, None, None, None, index=None)
            self.assert_raises(BadProgram, call, DESIGN, wrong_program, 0, NEXT, 0, index=1)
            self.assert_raises(BadState, call, DESIGN, PROGRAM, None, None, None)
            self.assert_raises(BadGuesser, call, DESIGN, PROGRAM, STATE, None, None)

    def test_rows_and_numbers_stand_last(self):
        for call in OF_ROWS:
            self.assert_raises(BadRow, call, DESIGN, PROGRAM, STATE, NEXT, None, index=None)
            self.assert_raises(BadGuesser, call, DESIGN, PROGRAM, STATE, ("row", ()), ())
        self.assert_raises(BadNumber, run, DESIGN, LOOP, STATE, NEXT, None)
        self.assert_raises(BadGuesser, run, DESIGN, LOOP, STATE, (), None)

    def test_four_arguments(self):
        for call in (rounds_of, Desk):
            self.assert_raises(BadDesign, call, None, None, None, None)
            self.assert_raises(BadProgram, call, DESIGN, LOOP + (None,), None, None, index=1)
            self.assert_raises(BadState, call, DESIGN, LOOP, None, None)
            self.assert_raises(BadGuesser, call, DESIGN, LOOP, STATE, None)
        self.assert_raises(TooLong, rounds_of, DESIGN, LOOP, STATE, NEXT, most=200)

    def test_blocks(self):
        self.assert_raises(BadDesign, count_rows, None, None, None)
        self.assert_raises(BadBlock, count_rows, DESIGN, None, None)
        self.assert_raises(BadBlock, count_rows, DESIGN, LOOP, None)
        self.assert_raises(BadState, count_rows, DESIGN, PROGRAM, None)

    def test_two_designs(self):
        wrong = design_of()
        for call in OF_TWO:
            self.assert_raises(BadDesign, call, None, None)
            self.assert_raises(BadDesign, call, wrong, None)
            self.assert_raises(BadDesign, call, None, wrong)
            self.assert_raises(NotMade, call, wrong, RIGHT)
            self.assert_raises(NotMade, call, RIGHT, wrong)
            self.assert_raises(NotMade, call, RIGHT, freest(DESIGN))

    def test_too_long_stands_behind_all(self):
        self.assert_raises(TooLong, run, DESIGN, LOOP, STATE, NEXT, (0,), most=600)
        self.assert_raises(BadNumber, run, DESIGN, LOOP, STATE, NEXT, (-1,))

    def test_a_wrong_row_of_a_program_that_does_not_end(self):
        self.assert_raises(BadRow, shows, DESIGN, LOOP, STATE, NEXT, (None,), index=0)
        self.assertIs(shows(DESIGN, LOOP, STATE, NEXT, ()), False)

    def test_rights(self):
        for call in OF_ENTRIES:
            self.assert_raises(BadDesign, call, None, None)
            self.assert_raises(BadDesign, call, DESIGN[:4], NEED)
            self.assert_raises(BadEntry, call, (1,) + DESIGN[1:], None)

    def test_not_made_stands_behind_all(self):
        self.assert_raises(NotMade, shown, DESIGN, ENTRY)
        self.assert_raises(NotMade, shown, (1,) + DESIGN[1:], NEED)
        self.assert_raises(BadEntry, shown, (1,) + DESIGN[1:], NEED[:4])
        self.assert_raises(BadDesign, shown, (5,) + DESIGN[1:], ENTRY)

    def test_designs(self):
        self.assert_raises(BadDesign, home_of, None, None)
        self.assert_raises(BadKind, home_of, DESIGN, None)
        self.assert_raises(BadDesign, with_table, None, None)
        self.assert_raises(BadTable, with_table, DESIGN, None)


class NothingChanges(Asking):
    def test_a_call_behind_an_error_answers_as_ahead_of_it(self):
        row = row_of(f"lay lay {whole(0)}")
        ahead = stand(DESIGN, PROGRAM, STATE, NEXT, row)
        with self.assertRaises(BadRow):
            stand(DESIGN, PROGRAM, STATE, NEXT, row + (("read", 0),))
        with self.assertRaises(TooLong):
            run(DESIGN, LOOP, STATE, NEXT, (0,))
        self.assertEqual(stand(DESIGN, PROGRAM, STATE, NEXT, row), ahead)
        told = run(DESIGN, PROGRAM, STATE, NEXT, (0, 1, 2))
        self.assertEqual(run(DESIGN, PROGRAM, STATE, NEXT, (0, 1, 2)), told)

    def test_arguments_stay_as_they_are(self):
        table = [list(ENTRY), {"any": [1]}]
        for value in (table, (2, False, True, ["write", "out", "out"], table), {0: table}):
            kept = copy.deepcopy(value)
            for call in OF_DESIGNS:
                with self.assertRaises(BadDesign):
                    call(value)
            for call in OF_ENTRIES:
                with self.assertRaises(BadEntry):
                    call(DESIGN, value)
            for call in OF_TWO:
                with self.assertRaises(BadDesign):
                    call(RIGHT, value)
            self.assertEqual(value, kept)

    def test_objects_of_the_package(self):
        desk = Desk(DESIGN, PROGRAM, STATE, NEXT)
        for value in (desk, (desk,), (desk,) * 3, (desk,) * 5, BadNumber("x")):
            for call in OF_DESIGNS:
                self.assert_raises(BadDesign, call, value)
            for call in OF_ENTRIES:
                self.assert_raises(BadEntry, call, DESIGN, value)
            self.assert_raises(BadBlock, count_rows, DESIGN, value, STATE)
            self.assert_raises(BadGuesser, rounds_of, DESIGN, PROGRAM, STATE, value)
        self.assertEqual((desk.row, desk.state), ((), STATE))


if __name__ == "__main__":
    unittest.main()
