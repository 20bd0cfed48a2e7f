"""Points 9, 11 and 12: which events can come, what they do, and how a run stands behind them."""

import unittest

from tests.samples import DESIGN, GOAL, NEXT, STATE, design_of, row_of, state_of, whole
from windowbelt.errors import BadRow
from windowbelt.windows import events_behind, has_ended, run, stand

SHOW = ("show", 0)


class Examples(unittest.TestCase):
    def setUp(self):
        self.program = (("set", 1, 5), ("sum", 2, 1, 1, 0))

    def test_rows(self):
        design, program, state = DESIGN, self.program, STATE
        self.assertEqual(
            [
                events_behind(design, program, state, NEXT, ()),
                events_behind(design, program, state, NEXT, (("lay",), ("lay",))),
                stand(design, program, state, NEXT, (("lay",), ("read", 0)))[1:],
                has_ended(design, program, state, NEXT, ()),
            ],
            [(("lay",),), (("read", 0), ("read", 1)), (1, 0, ((0, 0, "read"),)), False],
        )

    def test_run(self):
        self.assertEqual(
            [
                run(DESIGN, self.program, STATE, NEXT, numbers)[0][0][:3]
                for numbers in [(0,), (0, 0, 1, 0)]
            ],
            [(0, 5, 10), (0, 5, 0)],
        )

    def test_error(self):
        with self.assertRaises(BadRow) as caught:
            events_behind(DESIGN, self.program, STATE, NEXT, (("read", 0),))
        self.assertEqual(caught.exception.index, 0)


class Watching(unittest.TestCase):
    def told(self, design, program, row, state=STATE, guesser=NEXT):
        return stand(design, program, state, guesser, row_of(row))

    def registers(self, design, program, row, state=STATE, guesser=NEXT):
        return self.told(design, program, row, state, guesser)[0][0]

    def words_shown(self, design, program, row, state=STATE, guesser=NEXT):
        return self.told(design, program, row, state, guesser)[0][2]

    def assert_events(self, design, program, row, events, state=STATE, guesser=NEXT):
        told = events_behind(design, program, state, guesser, row_of(row))
        self.assertEqual(told, row_of(events))


class Order(Watching):
    """One instruction goes through its events in their order."""

    def test_one_instruction_alone(self):
        for instruction in (("set", 0, 5), ("get", 0, 1, 2), ("put", 0, 1, 2), ("show", 3)):
            for width in (1, 2, 4):
                row = ""
                for event in ("lay", "r0", "m0", "w0", "o0"):
                    self.assert_events(design_of(width=width), (instruction,), row, event)
                    row = f"{row} {event}"
                self.assert_events(design_of(width=width), (instruction,), row, "")

    def test_events_of_places_ascend_behind_lay(self):
        program = (("set", 0, 1), ("set", 1, 2), ("set", 2, 3), ("set", 3, 4), ("set", 4, 5))
        design = design_of()
        self.assert_events(design, program, "", "lay")
        self.assert_events(design, program, "lay", "lay r0")
        self.assert_events(design, program, "lay lay r1 lay r0 m0", "lay w0 m1 r2")
        self.assert_events(design, program, "lay lay lay lay r3 m3 w3 o3", "lay r0 r1 r2")

    def test_empty_program(self):
        for width in (1, 4):
            self.assert_events(design_of(width=width), (), "", "")
        self.assertTrue(has_ended(DESIGN, (), STATE, NEXT, ()))
        self.assertEqual(stand(DESIGN, (), STATE, NEXT, ()), (STATE, 0, 0, ()))

    def test_answers_are_tuples(self):
        told = self.told(DESIGN, (SHOW,), "lay")
        self.assertEqual([type(part) for part in told], [tuple, int, int, tuple])
        self.assertEqual([type(part) for part in told[0]], [tuple] * 3)
        self.assertIs(type(told[3][0]), tuple)
        events = events_behind(DESIGN, (SHOW,), STATE, NEXT, row_of("lay"))
        self.assertEqual([type(part) for part in (events,) + events], [tuple, tuple])


class Width(Watching):
    PROGRAM = (SHOW,) * 6

    def test_full(self):
        for width in (1, 2, 3, 4):
            design = design_of(width=width)
            for many in range(5):
                row = " ".join(["lay"] * min(many, width))
                events = events_behind(design, self.PROGRAM, STATE, NEXT, row_of(row))
                with self.subTest(width=width, many=many):
                    self.assertEqual(("lay",) in events, many < width)

    def test_free_again_by_one_that_is_out(self):
        design = design_of(width=2)
        self.assert_events(design, self.PROGRAM, "lay lay r1 m1 w1", "r0 o1")
        self.assert_events(design, self.PROGRAM, f"lay lay {whole(1)}", "lay r0")
        self.assert_events(design, self.PROGRAM, f"lay lay {whole(1)} lay", "r0 r2")

    def test_free_again_by_what_was_thrown_away(self):
        program = (("if", 0, 3), SHOW, SHOW, ("show", 1), ("show", 2))
        design = design_of(width=3)
        self.assert_events(design, program, "lay lay lay r0", "m0 r1 r2")
        self.assert_events(design, program, "lay lay lay r0 m0", "lay w0")
        self.assert_events(design, program, "lay lay lay r0 m0 lay lay", "w0 r3 r4")


class InOrder(Watching):
    PROGRAM = (("show", 0), ("show", 1), ("show", 2))

    def test_an_earlier_one_that_is_not_out(self):
        row = "lay lay lay r1 m1 w1"
        self.assert_events(design_of(inorder=True), self.PROGRAM, row, "r0 r2")
        self.assert_events(design_of(inorder=False), self.PROGRAM, row, "r0 o1 r2")
        row += " r0 m0 w0"
        self.assert_events(design_of(inorder=True), self.PROGRAM, row, "o0 r2")
        self.assert_events(design_of(inorder=True), self.PROGRAM, row + " o0", "o1 r2")

    def test_each_earlier_one(self):
        row = f"lay lay lay {whole(0)} r2 m2 w2"
        self.assert_events(design_of(inorder=True), self.PROGRAM, row, "r1")
        self.assert_events(design_of(inorder=True), self.PROGRAM, f"{row} {whole(1)}", "o2")

    def test_only_out(self):
        row = "lay lay r1 m1"
        self.assert_events(design_of(inorder=True), self.PROGRAM, row, "lay r0 w1")

    def test_an_earlier_one_that_was_thrown_away(self):
        program = (("if", 0, 2), ("show", 1), ("show", 2))
        row = "lay lay r0 m0 lay r2 m2 w2"
        self.assert_events(design_of(inorder=True), program, row, "w0")
        self.assert_events(design_of(inorder=True), program, row + " w0 o0", "o2")


class Reading(Watching):
    """Which words are read, as the words shown tell."""

    def word_read(self, design, program, row, state=STATE):
        """The word that a show as the last one laid reads behind a row."""
        last = len(program) - 1
        return self.words_shown(design, program, f"{row} {whole(last)}", state)[-1]

    def test_the_word_of_a_hand(self):
        program = (("set", 0, 5), ("show", 0))
        state = state_of((1,))
        for row, word in (
            ("lay lay", 1), ("lay lay r0", 1), ("lay lay r0 m0", 5), ("lay lay r0 m0 w0", 5),
            ("lay lay r0 m0 w0 o0", 5),
        ):
            with self.subTest(row=row):
                self.assertEqual(self.word_read(design_of(), program, row, state), word)

    def test_without_hands(self):
        program = (("set", 0, 5), ("show", 0))
        state = state_of((1,))
        for home, words in (("write", (1, 1, 1, 5, 5)), ("out", (1, 1, 1, 1, 5))):
            design = design_of(hands=False, homes=(home, "out", "out"))
            rows = ("lay lay", "lay lay r0", "lay lay r0 m0", "lay lay r0 m0 w0",
                    "lay lay r0 m0 w0 o0")
            told = [self.word_read(design, program, row, state) for row in rows]
            self.assertEqual(tuple(told), words)

    def test_only_the_last_writer_ahead_has_a_hand(self):
        # The last one has not made its result: the register's word is taken, not the other's.
        program = (("set", 0, 5), ("set", 0, 6), ("show", 0))
        state = state_of((1,))
        self.assertEqual(self.word_read(design_of(), program, "lay lay lay r0 m0", state), 1)
        self.assertEqual(self.word_read(design_of(), program, "lay lay lay r0 m0 w0 r1", state), 1)
        self.assertEqual(self.word_read(design_of(), program, "lay lay lay r1 m1 r0 m0", state), 6)
        self.assertEqual(self.word_read(design_of(), program, f"lay lay lay {whole(0)}", state), 5)

    def test_a_last_writer_that_is_out_has_no_hand(self):
        program = (("set", 0, 5), ("set", 0, 6), ("show", 0))
        state = state_of((1,))
        self.assertEqual(self.word_read(design_of(), program, f"lay lay lay {whole(1)}", state), 6)
        row = f"lay lay lay {whole(1)} r0 m0"
        self.assertEqual(self.word_read(design_of(), program, row, state), 6)
        # The register holds what the one that is out wrote, or what was written over it.
        design = design_of(homes=("write", "out", "out"))
        row = "lay lay lay r1 m1 w1 r0 m0 w0"
        self.assertEqual(self.word_read(design, program, row, state), 6)
        self.assertEqual(self.word_read(design, program, row + " o1", state), 5)

    def test_writers_behind_have_no_hand(self):
        program = (("show", 0), ("set", 0, 5))
        state = state_of((1,))
        row = f"lay lay r1 m1 {whole(0)}"
        self.assertEqual(self.words_shown(design_of(), program, row, state), (1,))
        row = f"lay lay {whole(1)} {whole(0)}"
        self.assertEqual(self.words_shown(design_of(), program, row, state), (5,))

    def test_a_writer_that_was_thrown_away_has_no_hand(self):
        program = (("if", 0, 2), ("set", 1, 5), ("show", 1))
        state = state_of((0, 7))
        row = "lay lay r1 m1 r0 m0 lay"
        self.assertEqual(self.word_read(design_of(), program, row, state), 7)
        program = (("set", 1, 6), ("if", 0, 3), ("set", 1, 5), ("show", 1))
        row = "lay lay lay r0 m0 r2 m2 r1 m1 lay r3 m3 w3 o3"
        self.assertEqual(self.words_shown(design_of(), program, row, state), (6,))

    def test_each_register_by_itself(self):
        program = (("set", 1, 5), ("set", 2, 6), ("sum", 0, 1, 2, 100))
        state = state_of((0, 10, 20))
        for row, word in (
            ("", 130), ("r0 m0", 125), ("r1 m1", 116), ("r0 m0 r1 m1", 111), ("r0 r1", 130),
        ):
            with self.subTest(row=row):
                row = f"lay lay lay {row} {whole(2)}"
                self.assertEqual(self.registers(design_of(), program, row, state)[0], word)

    def test_results_of_each_writing_kind(self):
        state = state_of((0, 200, 100), (4, 5, 6, 7))
        for writer, word in ((("set", 3, 9), 9), (("sum", 3, 1, 2, 3), 47), (("get", 3, 2, 6), 6)):
            program = (writer, ("show", 3))
            with self.subTest(writer=writer):
                row = f"lay lay r0 m0 {whole(1)}"
                self.assertEqual(self.words_shown(design_of(), program, row, state), (word,))

    def test_the_registers_of_reading_are_those_of_the_read(self):
        # The word is kept as it was read, whatever is written behind it.
        program = (("show", 0), ("set", 0, 5))
        row = f"lay lay r0 {whole(1)} m0 w0 o0"
        self.assertEqual(self.words_shown(design_of(), program, row, state_of((1,))), (1,))

    def test_the_cell_is_told_by_what_was_read(self):
        # A put of a hand's word to the cell that a hand's word tells.
        program = (("set", 1, 3), ("set", 2, 9), ("put", 2, 1, 6))
        row = f"lay lay lay r0 m0 r1 m1 {whole(2)}"
        told = self.told(design_of(), program, row)
        self.assertEqual(told[0][1], (0, 9) + (0,) * 6)
        row = f"lay lay lay r0 m0 r1 {whole(2)}"
        told = self.told(design_of(), program, row, state_of((0, 0, 4)))
        self.assertEqual(told[0][1], (0, 4) + (0,) * 6)
        row = f"lay lay lay r0 r1 m1 {whole(2)}"
        told = self.told(design_of(), program, row)
        self.assertEqual(told[0][1], (0,) * 6 + (9, 0))


class Effects(Watching):
    EVENTS = ("lay", "r0", "m0", "w0", "o0")

    def states(self, design, instruction, state):
        """The states behind none, one, and up to all five of its events."""
        return [
            self.told(design, (instruction,), " ".join(self.EVENTS[:many]), state)[0]
            for many in range(6)
        ]

    def assert_effect(self, instruction, place, state, behind):
        """The effect comes at the event that stands at this place of homes, and at no other."""
        for home, ahead in (("write", 4), ("out", 5)):
            for other in ("write", "out"):
                homes = [other] * 3
                homes[place] = home
                design = design_of(homes=tuple(homes))
                with self.subTest(instruction=instruction, homes=homes):
                    self.assertEqual(
                        self.states(design, instruction, state),
                        [state] * ahead + [behind] * (6 - ahead),
                    )

    def test_set(self):
        self.assert_effect(("set", 3, 5), 0, state_of((1,)), state_of((1, 0, 0, 5)))

    def test_sum(self):
        self.assert_effect(
            ("sum", 0, 1, 2, 10), 0, state_of((1, 250, 3)), state_of((7, 250, 3))
        )

    def test_get(self):
        cells = (0, 1, 2, 3, 4, 5, 6, 7)
        self.assert_effect(
            ("get", 0, 1, 7), 0, state_of((9, 14), cells), state_of((5, 14), cells)
        )

    def test_put(self):
        self.assert_effect(
            ("put", 0, 1, 7), 1, state_of((9, 14)), state_of((9, 14), (0,) * 5 + (9,))
        )

    def test_show(self):
        self.assert_effect(("show", 1), 2, state_of((9, 14), (), (3,)),
                           state_of((9, 14), (), (3, 14)))

    def test_if_has_none(self):
        for homes in (("write",) * 3, ("out",) * 3):
            for word in (0, 1):
                state = state_of((word,))
                told = self.states(design_of(homes=homes), ("if", 0, 1), state)
                self.assertEqual(told, [state] * 6)

    def test_get_fetches_when_it_makes(self):
        program = (("put", 0, 2, 1), ("get", 3, 2, 1))
        state = state_of((9,), (1, 2))
        for row, word in (
            ("lay lay r0 m0 r1 m1 w0 o0 w1 o1", 2), ("lay lay r0 m0 r1 w0 m1 o0 w1 o1", 9),
            ("lay lay r1 m1 r0 m0 w0 o0 w1 o1", 2), ("lay lay r1 r0 m0 w0 m1 w1 o1", 9),
        ):
            with self.subTest(row=row):
                design = design_of(homes=("out", "write", "out"))
                self.assertEqual(self.registers(design, program, row, state)[3], word)

    def test_later_effects_stay_as_they_come(self):
        program = (("set", 0, 5), ("set", 0, 6))
        row = f"lay lay {whole(1)} {whole(0)}"
        self.assertEqual(self.registers(design_of(), program, row)[0], 5)
        program = (("show", 1), ("show", 2))
        self.assertEqual(
            self.words_shown(design_of(), program, row, state_of((0, 7, 8))), (8, 7)
        )

    def test_more_than_500_words_shown(self):
        state = state_of((7,), (), (1,) * 500)
        told = self.told(design_of(), (SHOW,), f"lay {whole(0)}", state)
        self.assertEqual(told[0][2], (1,) * 500 + (7,))


class Guesses(Watching):
    """What an if does when it is decided."""

    PROGRAM = (("if", 0, 3), ("show", 1), ("show", 2), ("show", 3))

    def test_a_wrong_guess_throws_away(self):
        self.assertEqual(
            self.told(design_of(), self.PROGRAM, "lay lay lay r0")[1:],
            (3, 0, ((0, 0, "read"), (1, 1, "lay"), (2, 2, "lay"))),
        )
        self.assertEqual(
            self.told(design_of(), self.PROGRAM, "lay lay lay r0 m0")[1:],
            (3, 0, ((0, 0, "make"),)),
        )
        self.assert_events(design_of(), self.PROGRAM, "lay lay lay r0 m0", "lay w0")
        self.assertEqual(
            self.told(design_of(), self.PROGRAM, "lay lay lay r0 m0 lay")[1:],
            (4, 0, ((0, 0, "make"), (3, 3, "lay"))),
        )

    def test_a_right_guess_leaves_all(self):
        state = state_of((1,))
        self.assertEqual(
            self.told(design_of(), self.PROGRAM, "lay lay lay r0 m0", state)[1:],
            (3, 0, ((0, 0, "make"), (1, 1, "lay"), (2, 2, "lay"))),
        )
        self.assertEqual(
            self.told(design_of(), self.PROGRAM, "lay lay r0 m0", STATE, GOAL)[1:],
            (4, 0, ((0, 0, "make"), (1, 3, "lay"))),
        )

    def test_a_goal_that_is_the_next_one_is_never_wrong(self):
        program = (("if", 0, 1), ("show", 1))
        for state in (STATE, state_of((1,))):
            for guesser in (NEXT, GOAL):
                told = self.told(design_of(), program, "lay lay r0 m0", state, guesser)
                self.assertEqual(told[1:], (2, 0, ((0, 0, "make"), (1, 1, "lay"))))

    def test_a_wrong_guess_of_the_goal(self):
        told = self.told(design_of(), self.PROGRAM, "lay lay r0 m0", state_of((1,)), GOAL)
        self.assertEqual(told[1:], (1, 0, ((0, 0, "make"),)))

    def test_those_ahead_are_kept(self):
        program = (("show", 1),) + tuple(
            (word[0], word[1], word[2] + 1) if word[0] == "if" else word for word in self.PROGRAM
        )
        told = self.told(design_of(), program, "lay lay lay r1 m1")
        self.assertEqual(told[1:], (4, 0, ((0, 0, "lay"), (1, 1, "make"))))

    def test_one_that_is_out_is_thrown_away_but_its_effect_stays(self):
        state = state_of((0, 7))
        row = f"lay lay {whole(1)}"
        self.assertEqual(
            self.told(design_of(), self.PROGRAM, row, state),
            (state_of((0, 7), (), (7,)), 2, 1, ((0, 0, "lay"),)),
        )
        self.assertEqual(
            self.told(design_of(), self.PROGRAM, row + " r0 m0", state),
            (state_of((0, 7), (), (7,)), 3, 0, ((0, 0, "make"),)),
        )

    def test_an_if_is_decided_by_the_word_it_has_read(self):
        program = (("set", 0, 5),) + tuple(
            (word[0], word[1], word[2] + 1) if word[0] == "if" else word for word in self.PROGRAM
        )
        self.assertEqual(self.told(design_of(), program, "lay lay r0 m0 r1 m1")[1], 2)
        self.assertEqual(self.told(design_of(), program, "lay lay r1 r0 m0 w0 o0 m1")[1], 4)

    def test_an_if_inside_of_what_is_thrown_away(self):
        program = (("if", 0, 3), ("if", 1, 0), ("show", 1), ("show", 2))
        told = self.told(design_of(), program, "lay lay lay r1 m1")
        self.assertEqual(told[1:], (0, 0, ((0, 0, "lay"), (1, 1, "make"))))
        told = self.told(design_of(), program, "lay lay lay r1 m1 lay r0 m0")
        self.assertEqual(told[1:], (3, 0, ((0, 0, "make"),)))
        self.assert_events(design_of(), program, "lay lay lay r1 m1 lay r0 m0", "lay w0")

    def test_a_guess_that_is_the_end(self):
        program = (("if", 0, 1), ("show", 1))
        guesser = ("row", (2,))
        self.assert_events(design_of(), program, "lay", "r0", STATE, guesser)
        told = self.told(design_of(), program, "lay", STATE, guesser)
        self.assertEqual(told[1:], (2, 0, ((0, 0, "lay"),)))
        self.assertFalse(has_ended(design_of(), program, STATE, guesser, row_of("lay")))
        self.assert_events(design_of(), program, "lay r0 m0", "lay w0", STATE, guesser)


class Stands(Watching):
    PROGRAM = (("set", 0, 5), ("show", 0))

    def ended(self, row):
        return has_ended(DESIGN, self.PROGRAM, STATE, NEXT, row_of(row))

    def test_at_the_start(self):
        state = state_of((1, 2), (3,), (4,))
        self.assertEqual(stand(DESIGN, self.PROGRAM, state, NEXT, ()), (state, 0, 0, ()))
        self.assertIs(self.ended(""), False)

    def test_in_the_middle(self):
        for row, told in (
            ("lay", (STATE, 1, 0, ((0, 0, "lay"),))),
            ("lay lay r1 r0", (STATE, 2, 0, ((0, 0, "read"), (1, 1, "read")))),
            ("lay r0 m0 w0", (state_of((5,)), 1, 0, ((0, 0, "write"),))),
            ("lay r0 m0 w0 o0", (state_of((5,)), 1, 1, ())),
            ("lay lay r0 m0 w0 o0", (state_of((5,)), 2, 1, ((1, 1, "lay"),))),
            (f"lay lay {whole(1)}", (state_of((), (), (0,)), 2, 1, ((0, 0, "lay"),))),
        ):
            with self.subTest(row=row):
                self.assertEqual(self.told(DESIGN, self.PROGRAM, row), told)
                self.assertIs(self.ended(row), False)

    def test_at_the_end(self):
        row = f"lay lay {whole(0)} {whole(1)}"
        self.assertEqual(
            self.told(DESIGN, self.PROGRAM, row), (state_of((5,), (), (5,)), 2, 2, ())
        )
        self.assertIs(self.ended(row), True)
        self.assertEqual(events_behind(DESIGN, self.PROGRAM, STATE, NEXT, row_of(row)), ())

    def test_places_count_those_thrown_away_but_out_does_not(self):
        program = (("if", 0, 2), ("show", 1), ("show", 2))
        row = f"lay lay lay {whole(1)} r0 m0 lay w0 o0"
        told = self.told(design_of(), program, row)
        self.assertEqual(told[1:], (3, 1, ((3, 2, "lay"),)))

    def test_a_loop(self):
        program = (("show", 1), ("if", 0, 0))
        told = self.told(design_of(), program, "lay lay lay lay", STATE, GOAL)
        self.assertEqual(
            told[1:], (0, 0, ((0, 0, "lay"), (1, 1, "lay"), (2, 0, "lay"), (3, 1, "lay")))
        )


if __name__ == "__main__":
    unittest.main()
