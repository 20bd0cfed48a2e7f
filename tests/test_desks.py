"""Point 26: a desk, its lines, and events that are taken back."""

import random
import unittest

from tests.samples import (
    DESIGN, GOAL, LETTERS, NEXT, NO_DESIGNS, NO_GUESSERS, NO_PROGRAMS, NO_STATES, STATE, WORDS,
    design_of, random_program, row_of, state_of, whole,
)
from windowbelt.desks import Desk
from windowbelt.errors import (
    BadDesign, BadGuesser, BadProgram, BadState, InvalidText, NothingToUndo, NotNow, NotText,
    WindowError,
)
from windowbelt.frees import freest
from windowbelt.windows import events_behind, stand

PROGRAM = (("set", 1, 5), ("sum", 2, 1, 1, 0), ("show", 2))
LOOP = (("sum", 0, 0, 0, 1), ("show", 0), ("if", 7, 0))


def line_for(event):
    """The line of an event."""
    return " ".join(str(part) for part in event)


class Desks(unittest.TestCase):
    def desk(self, program=PROGRAM, design=DESIGN, state=STATE, guesser=NEXT):
        return Desk(design, program, state, guesser)

    def go(self, desk, row):
        """Does a row of events, each by its line."""
        for event in row_of(row):
            self.assertIsNone(desk.run(line_for(event)))

    def all_told(self, desk):
        """All that a desk tells."""
        lines = ("events", "state", "out", "right")
        return desk.row, desk.state, [desk.run(line) for line in lines]

    def assert_raises(self, kind, desk, told, **fields):
        kept = self.all_told(desk)
        with self.assertRaises(kind) as caught:
            desk.run(told)
        self.assertEqual(vars(caught.exception), fields)
        self.assertEqual(self.all_told(desk), kept)


class Examples(Desks):
    def test_answers(self):
        desk = self.desk((("set", 1, 5),))
        self.assertEqual(
            [
                desk.run("events"), desk.run("lay"), desk.run("on 3"), desk.run("state"),
                desk.run("out"), desk.undo(), desk.row[-1], desk.run("right"),
            ],
            ["lay", None, None, "0 5 0 0 0 0 0 0", "0", None, ("make", 0), "no"],
        )
        with self.assertRaises(NotNow):
            desk.run("out 0")


class Lines(Desks):
    def test_at_the_start(self):
        state = state_of((1, 2, 255), (3,), (4,))
        desk = self.desk(state=state)
        self.assertEqual(
            self.all_told(desk), ((), state, ["lay", "1 2 255 0 0 0 0 0", "0", "no"])
        )

    def test_in_the_middle(self):
        desk = self.desk()
        self.go(desk, f"lay lay {whole(0)}")
        self.assertEqual(desk.row, row_of(f"lay lay {whole(0)}"))
        self.assertEqual(desk.state, state_of((0, 5)))
        self.assertEqual(
            self.all_told(desk)[2], ["lay ; read 1", "0 5 0 0 0 0 0 0", "1", "no"]
        )
        self.go(desk, "r1 lay r2")
        self.assertEqual(desk.run("events"), "make 1 ; make 2")

    def test_at_the_end(self):
        desk = self.desk()
        self.go(desk, f"lay {whole(0)} lay {whole(1)} lay {whole(2)}")
        self.assertEqual(desk.state, state_of((0, 5, 10), (), (10,)))
        self.assertEqual(self.all_told(desk)[2], ["", "0 5 10 0 0 0 0 0", "3", "no"])
        desk = self.desk(())
        self.assertEqual(self.all_told(desk), ((), STATE, ["", "0 0 0 0 0 0 0 0", "0", "no"]))

    def test_every_event(self):
        for home, changed in (("out", 1), ("write", 2)):
            desk = self.desk((("set", 1, 5),), design_of(homes=(home, "out", "out")))
            told = []
            for event in row_of(f"lay {whole(0)}"):
                self.assertEqual(desk.run("out"), "0")
                self.assertIsNone(desk.run(line_for(event)))
                told.append(desk.run("state"))
            self.assertEqual(desk.run("out"), "1")
            ahead = ["0 0 0 0 0 0 0 0"] * (5 - changed)
            self.assertEqual(told, ahead + ["0 5 0 0 0 0 0 0"] * changed)

    def test_right(self):
        for design in (design_of(), design_of(width=1), freest(design_of(width=3))):
            desk = self.desk(design=design)
            told = desk.run("right")
            self.assertEqual(told, "no" if design == design_of() else "yes")
            desk.run("on 7")
            self.assertEqual(desk.run("right"), told)

    def test_what_was_thrown_away(self):
        program = (("if", 0, 3), ("show", 1), ("show", 2), ("show", 3))
        desk = self.desk(program, design_of(), state_of((0, 7, 8, 9)))
        self.go(desk, f"lay lay lay {whole(1)} r0")
        self.assertEqual((desk.run("out"), desk.run("events")), ("1", "lay ; make 0 ; read 2"))
        self.go(desk, "m0")
        self.assertEqual((desk.run("out"), desk.run("events")), ("0", "lay ; write 0"))
        self.go(desk, "lay")
        self.assertEqual(desk.run("events"), "write 0 ; read 3")
        self.assertEqual(desk.state, state_of((0, 7, 8, 9), (), (7,)))

    def test_events_are_those_of_the_window(self):
        source = random.Random(26)
        for _ in range(30):
            program = random_program(source, source.randrange(1, 7))
            design = design_of(width=source.choice((2, 3, 4)), inorder=source.random() < 0.3)
            guesser = source.choice((NEXT, GOAL, ("row", (3, 1, 4))))
            desk = self.desk(program, design, guesser=guesser)
            row = ()
            while len(row) < 60:
                can = events_behind(design, program, STATE, guesser, row)
                self.assertEqual(desk.run("events"), " ; ".join(line_for(event) for event in can))
                state, _, out, _ = stand(design, program, STATE, guesser, row)
                self.assertEqual((desk.row, desk.state), (row, state))
                self.assertEqual(desk.run("state"), " ".join(str(word) for word in state[0]))
                self.assertEqual(desk.run("out"), str(out))
                if not can:
                    break
                row += (source.choice(can),)
                self.assertIsNone(desk.run(line_for(row[-1])))

    def test_answers_are_strings_and_tuples(self):
        desk = self.desk()
        desk.run("on 4")
        self.assertEqual(
            [type(desk.run(line)) for line in ("events", "state", "out", "right")], [str] * 4
        )
        self.assertEqual([type(desk.row), type(desk.row[0])], [tuple, tuple])
        self.assertEqual([type(part) for part in desk.state], [tuple] * 3)


class On(Desks):
    def test_the_first_event_that_can_come(self):
        for many in (1, 2, 3, 11, 15):
            desk = self.desk()
            row = ()
            for _ in range(many):
                can = events_behind(DESIGN, PROGRAM, STATE, NEXT, row)
                row += can[:1]
            self.assertIsNone(desk.run(f"on {many}"))
            self.assertEqual(desk.row, row)
            self.assertEqual(len(row), many)

    def test_fewer_events_than_asked_for(self):
        for many in (15, 16, 200):
            desk = self.desk()
            self.assertIsNone(desk.run(f"on {many}"))
            self.assertEqual(len(desk.row), 15)
            self.assertEqual((desk.run("events"), desk.run("out")), ("", "3"))
            self.assertIsNone(desk.run("on 1"))
            self.assertEqual(len(desk.row), 15)
        desk = self.desk(())
        self.assertIsNone(desk.run("on 5"))
        self.assertEqual(desk.row, ())

    def test_1_and_200_and_beyond(self):
        desk = self.desk(LOOP)
        self.assertIsNone(desk.run("on 1"))
        self.assertEqual(len(desk.row), 1)
        self.assertIsNone(desk.run("on 200"))
        self.assertEqual(len(desk.row), 201)
        for line in ("on 0", "on 201", "on 1000", "on " + "9" * 5000, "on -1", "on 01", "on +1",
                     "on", "on ", "on  1", "on 1 ", " on 1", "on 1 1", "on\t1", "on x", "ON 1",
                     "on 1\n", "on \u0661", "on1", "on 1.0"):
            self.assert_raises(InvalidText, desk, line, line=1)

    def test_rows_of_more_than_600_events(self):
        desk = self.desk(LOOP, freest(design_of()))
        for _ in range(5):
            desk.run("on 200")
        self.assertEqual(len(desk.row), 1000)
        self.assertEqual(desk.run("out"), str(sum(event[0] == "out" for event in desk.row)))
        words = [(2 ** k - 1) % 256 for k in range(1, 600)]
        self.assertEqual(list(desk.state[2]), words[:len(desk.state[2])])
        self.assertGreater(len(desk.state[2]), 60)
        last = desk.row[-1]
        desk.undo()
        self.assertEqual(len(desk.row), 999)
        self.assertIn(line_for(last), desk.run("events").split(" ; "))

    def test_more_than_500_words_shown(self):
        state = state_of((), (), (1,) * 499)
        desk = self.desk((("show", 0), ("if", 7, 0)), design_of(width=1), state)
        for _ in range(4):
            desk.run("on 10")
        self.assertEqual(desk.state[2], (1,) * 499 + (0,) * 4)


class Wrong(Desks):
    def desks(self):
        """Desks at the start, in the middle and at the end of a run."""
        for many in (0, 1, 6, 15):
            desk = self.desk()
            for _ in range(many):
                desk.run("on 1")
            yield desk

    def test_events_that_cannot_come(self):
        lines = ["lay"] + [f"{event} {place}" for event in LETTERS.values() for place in range(5)]
        for desk in self.desks():
            can = desk.run("events").split(" ; ")
            for line in lines:
                if line not in can:
                    self.assert_raises(NotNow, desk, line)
            for place in (9, 10, 41, 600, 10 ** 9, 10 ** 10, 10 ** 30):
                self.assert_raises(NotNow, desk, f"read {place}")
            self.assert_raises(NotNow, desk, "out " + "1" * 5000)

    def test_a_place_is_not_cut_short(self):
        desk = self.desk()
        self.go(desk, "lay lay")
        for line in ("read 10", "read 11", "read 1000000000000", "read 1" + "0" * 30):
            self.assert_raises(NotNow, desk, line)

    def test_the_place_of_what_was_thrown_away(self):
        desk = self.desk((("if", 0, 2), ("show", 1)), design_of())
        self.go(desk, "lay lay r1 r0 m0")
        self.assert_raises(NotNow, desk, "make 1")
        self.assert_raises(NotNow, desk, "read 1")

    def test_lines_that_are_none(self):
        for desk in self.desks():
            for line in (
                "", " ", "\n", "lay ", " lay", "lay 0", "lay\n", "lay\nlay", "LAY", "lays", "Lay",
                "read", "read ", "read  0", " read 0", "read 0 ", "read 00", "read 01", "read +0",
                "read -0", "read -1", "read x", "read 0 0", "read\t0", "read 0\n", "READ 0",
                "make", "write", "out 00", "out ", " out", "out\n", "Out", "out x", "out -1",
                "read \u0660", "read \u00b2", "hop", "hop 0", "set 0", "events ", "event",
                "events 0", "state 0", "states", "State", "right 1", "rights", "yes", "undo", "row",
                "read 0x0", "read 1_0", "0", "0 read", "read,0", "lay ; lay", "('lay',)",
            ):
                self.assert_raises(InvalidText, desk, line, line=1)

    def test_values_that_are_no_strings(self):
        values = (
            True, False, None, 0, 1, -1, (), ("lay",), ["lay"], [], {}, {"lay": 1}, b"lay",
            WindowError("lay"),
        )
        for desk in self.desks():
            for value in values + (desk,):
                self.assert_raises(NotText, desk, value)

    def test_the_arguments_of_a_desk(self):
        for value in NO_DESIGNS:
            with self.subTest(value=value), self.assertRaises(BadDesign):
                Desk(value, None, None, None)
        for value, index in NO_PROGRAMS:
            with self.assertRaises(BadProgram) as caught:
                Desk(DESIGN, value, None, None)
            self.assertEqual(vars(caught.exception), {"index": index})
        for value in NO_STATES:
            with self.assertRaises(BadState):
                Desk(DESIGN, PROGRAM, value, None)
        for value in NO_GUESSERS:
            with self.subTest(value=value), self.assertRaises(BadGuesser):
                Desk(DESIGN, PROGRAM, STATE, value)
        with self.assertRaises(BadState):
            Desk(DESIGN, PROGRAM, (WORDS, WORDS, (0,) * 501), NEXT)


class Undo(Desks):
    def assert_nothing(self, desk):
        kept = self.all_told(desk)
        with self.assertRaises(NothingToUndo) as caught:
            desk.undo()
        self.assertEqual(vars(caught.exception), {})
        self.assertEqual(self.all_told(desk), kept)

    def test_at_the_start(self):
        for program in (PROGRAM, ()):
            desk = self.desk(program)
            self.assert_nothing(desk)
            desk.run("on 200")
            while desk.row:
                self.assertIsNone(desk.undo())
            self.assert_nothing(desk)

    def test_behind_each_kind_of_event(self):
        program = (("set", 0, 5), ("put", 0, 1, 2), ("get", 2, 1, 2), ("show", 2), ("if", 3, 5))
        for homes in (("out",) * 3, ("write",) * 3):
            desk = self.desk(program, design_of(homes=homes))
            seen = []
            row = " ".join(f"lay {whole(place)}" for place in range(5))
            for event in row_of(row):
                seen.append(self.all_told(desk))
                desk.run(line_for(event))
                here = self.all_told(desk)
                desk.undo()
                self.assertEqual(self.all_told(desk), seen[-1])
                desk.run(line_for(event))
                self.assertEqual(self.all_told(desk), here)
            while seen:
                desk.undo()
                self.assertEqual(self.all_told(desk), seen.pop())
            self.assert_nothing(desk)

    def test_what_was_thrown_away_comes_back(self):
        program = (("if", 0, 3), ("show", 1), ("set", 2, 9), ("show", 2))
        desk = self.desk(program, design_of(), state_of((0, 7, 8)))
        self.go(desk, f"lay lay lay {whole(1)} r2 r0")
        ahead = self.all_told(desk)
        self.go(desk, "m0")
        self.assertEqual(desk.run("events"), "lay ; write 0")
        desk.undo()
        self.assertEqual(self.all_told(desk), ahead)
        self.assertEqual(desk.run("events"), "lay ; make 0 ; make 2")
        # The instruction that was thrown away is the last writer of register 2 again.
        self.go(desk, "lay m2 r3 m3 w3 o3")
        self.assertEqual(desk.state[2], (7, 9))
        desk.run("make 0")
        self.go(desk, "lay r4 m4 w4 o4")
        self.assertEqual(desk.state[2], (7, 9, 8))

    def test_the_guess_of_an_if_comes_back(self):
        program = (("if", 0, 1), ("if", 0, 2), ("show", 0))
        desk = self.desk(program, design_of(), guesser=("row", (1, 3)))
        self.go(desk, "lay lay")
        self.assertEqual(desk.run("events"), "read 0 ; read 1")
        for many in (1, 2, 1):
            for _ in range(many):
                desk.undo()
            self.go(desk, " ".join(["lay"] * many))
            self.assertEqual(desk.run("events"), "read 0 ; read 1")

    def test_behind_on(self):
        desk = self.desk()
        desk.run("on 4")
        row = desk.row
        desk.run("on 5")
        for many in range(5):
            self.assertEqual(len(desk.row), 9 - many)
            desk.undo()
        self.assertEqual(desk.row, row)
        desk.run("on 200")
        desk.undo()
        self.assertEqual((len(desk.row), desk.run("events")), (14, "out 2"))

    def test_behind_an_error(self):
        desk = self.desk()
        self.go(desk, "lay r0")
        for line in ("read 0", "hop", None):
            with self.assertRaises(WindowError):
                desk.run(line)
        desk.undo()
        self.assertEqual(desk.row, row_of("lay"))

    def test_long_rows(self):
        desk = self.desk(LOOP, freest(design_of(width=3)), guesser=("row", (0, 3, 1, 2)))
        told = []
        for _ in range(4):
            desk.run("on 200")
            told.append(self.all_told(desk))
        for many in (600, 400, 200):
            self.assertEqual(self.all_told(desk), told.pop())
            while len(desk.row) > many:
                desk.undo()
        self.assertEqual(self.all_told(desk), told.pop())
        while desk.row:
            desk.undo()
        new = self.desk(LOOP, freest(design_of(width=3)))
        self.assertEqual(self.all_told(desk), self.all_told(new))
        self.assert_nothing(desk)

    def test_random_ways_to_and_fro(self):
        source = random.Random(27)
        for _ in range(30):
            program = random_program(source, source.randrange(1, 7))
            design = design_of(
                width=source.choice((2, 3, 4)), hands=source.random() < 0.5,
                homes=source.choice((("out",) * 3, ("write",) * 3)),
            )
            guesser = source.choice((NEXT, GOAL, ("row", (3, 1, 4))))
            desk = self.desk(program, design, guesser=guesser)
            row = ()
            for _ in range(60):
                can = events_behind(design, program, STATE, guesser, row)
                if row and (not can or source.random() < 0.4):
                    desk.undo()
                    row = row[:-1]
                elif can:
                    row += (source.choice(can),)
                    desk.run(line_for(row[-1]))
                told = stand(design, program, STATE, guesser, row)
                self.assertEqual((desk.row, desk.state), (row, told[0]))
                self.assertEqual(desk.run("out"), str(told[2]))

    def test_two_desks_are_apart(self):
        one, other = self.desk(), self.desk()
        one.run("on 8")
        self.assertEqual((other.row, other.state), ((), STATE))
        self.assert_nothing(other)
        kept = one.row
        one.undo()
        self.assertEqual((len(kept), len(one.row)), (8, 7))


if __name__ == "__main__":
    unittest.main()
