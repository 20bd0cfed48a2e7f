"""Point 4: states, ran and ended; and which error stands first (point 1)."""

import copy
import unittest

from tests.samples import NO_INTEGERS, NO_TUPLES, STATE, WORDS, state_of
from windowbelt.errors import BadNumber, BadProgram, BadState, TooLong
from windowbelt.plain import ended, ran

SHOW = ("show", 0)
# Instruction 0 again and again.
LOOP = (("if", 0, 0),)
SHOWN_BEFORE = tuple(range(250)) * 2


def doing(many):
    """A program of at most 10 instructions that ends behind so many, from 495 on.

    Its loop does 165 times three instructions, but the last time two, and a set ahead of it.
    """
    loop = (("set", 1, 256 - 165), ("sum", 1, 1, 7, 1), ("if", 1, 4), ("if", 7, 1))
    return loop + (SHOW,) * (many - 495)


class Examples(unittest.TestCase):
    def test_ran_and_ended(self):
        state = ((0,) * 8, (0,) * 8, ())
        self.assertEqual(
            [
                ran((("set", 1, 5), ("show", 1), ("if", 0, 1)), state, 3)[1:],
                ended((("set", 1, 5), ("show", 1)), state)[0][2],
            ],
            [(1, 3), (5,)],
        )

    def test_too_long(self):
        with self.assertRaises(TooLong) as caught:
            ended(LOOP, STATE)
        self.assertEqual(caught.exception.most, 500)


class Kinds(unittest.TestCase):
    """Each kind of instruction does what point 2 says, and nothing else."""

    def assert_does(self, instruction, before, behind):
        for told in (ran((instruction,), before, 1), ran((instruction,), before, 500)):
            self.assertEqual(told, (behind, 1, 1))
        self.assertEqual(ended((instruction,), before), (behind, 1))

    def test_set(self):
        self.assert_does(("set", 0, 255), state_of((7,), (1,), (2,)), state_of((255,), (1,), (2,)))
        self.assert_does(("set", 7, 0), state_of((9,) * 8), state_of((9,) * 7))

    def test_sum(self):
        self.assert_does(
            ("sum", 5, 1, 2, 30), state_of((1, 10, 20), (4,)), state_of((1, 10, 20, 0, 0, 60), (4,))
        )
        self.assert_does(("sum", 1, 1, 1, 1), state_of((0, 3)), state_of((0, 7)))

    def test_sum_wraps_by_256(self):
        for one, other, number, total in (
            (255, 0, 0, 255), (255, 1, 0, 0), (0, 1, 255, 0), (255, 255, 255, 253),
            (128, 128, 1, 1), (255, 0, 2, 1),
        ):
            with self.subTest(one=one, other=other, number=number):
                self.assert_does(
                    ("sum", 2, 0, 1, number), state_of((one, other)), state_of((one, other, total))
                )

    def test_get(self):
        cells = (10, 11, 12, 13, 14, 15, 16, 17)
        for word, number, got in (
            (0, 0, 10), (0, 7, 17), (3, 2, 15), (7, 0, 17), (7, 1, 10), (7, 7, 16), (8, 0, 10),
            (255, 0, 17), (255, 1, 10),
        ):
            with self.subTest(word=word, number=number):
                self.assert_does(
                    ("get", 2, 1, number), state_of((9, word), cells),
                    state_of((9, word, got), cells),
                )

    def test_get_into_the_register_of_the_number(self):
        self.assert_does(
            ("get", 1, 1, 0), state_of((0, 3), (5, 6, 7, 8)), state_of((0, 8), (5, 6, 7, 8))
        )

    def test_put(self):
        for word, number, cell in (
            (0, 0, 0), (0, 7, 7), (3, 2, 5), (7, 1, 0), (7, 7, 6), (8, 0, 0), (255, 0, 7),
            (255, 1, 0),
        ):
            cells = [1] * 8
            behind = list(cells)
            behind[cell] = 200
            with self.subTest(word=word, number=number):
                self.assert_does(
                    ("put", 3, 1, number), state_of((9, word, 0, 200), cells),
                    state_of((9, word, 0, 200), behind),
                )

    def test_put_of_the_register_of_the_number(self):
        self.assert_does(("put", 2, 2, 1), state_of((0, 0, 5)), state_of((0, 0, 5), (0,) * 6 + (5,)))

    def test_show(self):
        self.assert_does(("show", 3), state_of((0, 0, 0, 8)), state_of((0, 0, 0, 8), (), (8,)))
        self.assert_does(("show", 0), state_of((0,), (), (4, 4)), state_of((0,), (), (4, 4, 0)))

    def test_jump_taken(self):
        program = (("if", 3, 2), SHOW, ("show", 1))
        self.assertEqual(ran(program, STATE, 1), (STATE, 2, 1))
        self.assertEqual(ended(program, state_of((1, 2))), (state_of((1, 2), (), (2,)), 2))

    def test_jump_not_taken(self):
        program = (("if", 3, 2), SHOW, ("show", 1))
        for word in (1, 128, 255):
            state = state_of((1, 2, 0, word))
            with self.subTest(word=word):
                self.assertEqual(ran(program, state, 1), (state, 1, 1))
                behind = state_of((1, 2, 0, word), (), (1, 2))
                self.assertEqual(ended(program, state), (behind, 3))

    def test_goal_0_and_goal_at_the_end(self):
        self.assertEqual(ran((SHOW, ("if", 0, 0)), STATE, 2), (state_of((), (), (0,)), 0, 2))
        self.assertEqual(ended((("if", 0, 2), SHOW), STATE), (STATE, 1))
        self.assertEqual(ended((("if", 0, 1),), STATE), (STATE, 1))
        self.assertEqual(ended((("if", 0, 1),), state_of((1,))), (state_of((1,)), 1))

    def test_jump_back_and_to_itself(self):
        self.assertEqual(ran(LOOP, STATE, 500), (STATE, 0, 500))
        self.assertEqual(ran((SHOW, ("if", 0, 1)), STATE, 9)[1:], (1, 9))


class Ran(unittest.TestCase):
    def test_empty_program(self):
        state = state_of((1, 2), (3,), (4,))
        for most in (0, 1, 500):
            self.assertEqual(ran((), state, most), (state, 0, 0))
        self.assertEqual(ended((), state), (state, 0))

    def test_none_done(self):
        state = state_of((1, 2), (3,), (4,))
        self.assertEqual(ran((SHOW,), state, 0), (state, 0, 0))

    def test_stops_behind_most_or_at_the_end(self):
        program = (SHOW, ("set", 0, 1), SHOW)
        for most, place, shown in (
            (1, 1, (0,)), (2, 2, (0,)), (3, 3, (0, 1)), (4, 3, (0, 1)), (500, 3, (0, 1)),
        ):
            with self.subTest(most=most):
                state, coming, done = ran(program, STATE, most)
                self.assertEqual((state[2], coming, done), (shown, place, place))

    def test_500_instructions(self):
        self.assertEqual(ran((SHOW, ("if", 0, 0)), STATE, 500), (
            state_of((), (), (0,) * 250), 0, 500,
        ))
        self.assertEqual(ran((SHOW, ("if", 0, 0)), STATE, 499)[1:], (1, 499))

    def test_a_longer_program(self):
        # 13 times 11 by sums, by way of a cell.
        program = (
            ("set", 0, 11), ("set", 1, 243), ("sum", 2, 2, 0, 0), ("sum", 1, 1, 7, 1),
            ("if", 1, 6), ("if", 7, 2), ("put", 2, 0, 6), ("get", 3, 7, 1), SHOW, ("show", 3),
        )
        self.assertEqual(
            ended(program, STATE),
            (state_of((11, 0, 143, 143), (0, 143), (11, 143)), 2 + 4 * 13 - 1 + 4),
        )

    def test_answers_are_tuples(self):
        for told in (ran((SHOW,), STATE, 1), ended((SHOW,), STATE)):
            self.assertIs(type(told), tuple)
            self.assertEqual([type(part) for part in told[0]], [tuple] * 3)
            self.assertIs(type(told[0]), tuple)


class Ended(unittest.TestCase):
    def test_exactly_500(self):
        for many in (495, 499, 500):
            program = doing(many)
            with self.subTest(many=many):
                self.assertEqual(ended(program, STATE)[1], many)
                self.assertEqual(ran(program, STATE, 500)[1:], (len(program), many))
                self.assertEqual(ended(program, STATE)[0], ran(program, STATE, many)[0])
        self.assertEqual(ran(doing(500), STATE, 499)[1:], (len(doing(500)) - 1, 499))

    def test_one_more_than_500(self):
        program = doing(501)
        self.assertEqual(ran(program, STATE, 500)[1:], (len(program) - 1, 500))
        with self.assertRaises(TooLong) as caught:
            ended(program, STATE)
        self.assertEqual(caught.exception.most, 500)

    def test_more_than_500_words_shown(self):
        state = state_of((3,), (), SHOWN_BEFORE)
        behind = state_of((3,), (), SHOWN_BEFORE + (3, 3))
        self.assertEqual(ended((SHOW, SHOW), state), (behind, 2))
        self.assertEqual(ran((SHOW, SHOW), state, 2), (behind, 2, 2))
        self.assertEqual(len(ran((SHOW, ("if", 1, 0)), state, 500)[0][2]), 750)


class States(unittest.TestCase):
    def assert_bad(self, state):
        for call in (lambda: ran((), state, 0), lambda: ended((), state)):
            with self.assertRaises(BadState):
                call()

    def test_500_and_501_words_shown(self):
        state = state_of((), (), SHOWN_BEFORE)
        self.assertEqual(ended((), state), (state, 0))
        self.assertEqual(ran((), state, 0), (state, 0, 0))
        self.assert_bad(state_of((), (), SHOWN_BEFORE + (0,)))

    def test_least_and_greatest_words(self):
        state = ((255,) * 8, (255,) * 8, (0, 255))
        self.assertEqual(ended((), state), (state, 0))

    def test_no_tuples(self):
        for value in NO_TUPLES:
            with self.subTest(value=value):
                self.assert_bad(value)
                self.assert_bad((value, WORDS, ()))
                self.assert_bad((WORDS, value, ()))
                self.assert_bad((WORDS, WORDS, value))

    def test_lists_and_dicts_for_tuples(self):
        self.assert_bad([WORDS, WORDS, ()])
        self.assert_bad((list(WORDS), WORDS, ()))
        self.assert_bad((WORDS, list(WORDS), ()))
        self.assert_bad((dict.fromkeys(range(8), 0), WORDS, ()))
        self.assert_bad(("0" * 8, WORDS, ()))

    def test_wrong_sizes(self):
        for value in (
            (), (WORDS,), (WORDS, WORDS), (WORDS, WORDS, (), ()), WORDS, (0, 0, 0),
            ((), (), ()), (WORDS[1:], WORDS, ()), (WORDS + (0,), WORDS, ()),
            (WORDS, WORDS[1:], ()), (WORDS, WORDS + (0,), ()),
        ):
            with self.subTest(value=value):
                self.assert_bad(value)

    def test_wrong_words(self):
        for wrong in NO_INTEGERS + (-1, 256, 10 ** 30):
            with self.subTest(wrong=wrong):
                for place in (0, 7):
                    words = WORDS[:place] + (wrong,) + WORDS[place + 1:]
                    self.assert_bad((words, WORDS, ()))
                    self.assert_bad((WORDS, words, ()))
                self.assert_bad((WORDS, WORDS, (wrong,)))
                self.assert_bad((WORDS, WORDS, (0, 0, wrong)))


class Numbers(unittest.TestCase):
    def test_no_numbers(self):
        for wrong in NO_INTEGERS + (-1, 501, 10 ** 30, -(10 ** 30)):
            with self.subTest(wrong=wrong):
                with self.assertRaises(BadNumber):
                    ran((SHOW,), STATE, wrong)


class WhichErrorIsFirst(unittest.TestCase):
    def assert_raises(self, kind, call, **fields):
        with self.assertRaises(kind) as caught:
            call()
        self.assertEqual(vars(caught.exception), fields)

    def test_program_ahead_of_state_ahead_of_number(self):
        self.assert_raises(BadProgram, lambda: ran(None, None, None), index=None)
        self.assert_raises(BadProgram, lambda: ran((SHOW, 1), STATE, -1), index=1)
        self.assert_raises(BadProgram, lambda: ran((SHOW, 1), None, 0), index=1)
        self.assert_raises(BadState, lambda: ran((SHOW,), None, True))
        self.assert_raises(BadNumber, lambda: ran((SHOW,), STATE, True))

    def test_ended(self):
        self.assert_raises(BadProgram, lambda: ended([], []), index=None)
        self.assert_raises(BadProgram, lambda: ended(LOOP + (("if", 0, 3),), STATE), index=1)
        self.assert_raises(BadState, lambda: ended(LOOP, (WORDS, WORDS)))
        self.assert_raises(TooLong, lambda: ended(LOOP, STATE), most=500)

    def test_of_several_wrong_items_the_first(self):
        self.assert_raises(
            BadProgram, lambda: ended((SHOW, ("if", 0, 9), None), STATE), index=1
        )


class Arguments(unittest.TestCase):
    def test_arguments_stay_as_they_are(self):
        for program, state, most in (
            ([["show", 0]], [[0] * 8, [0] * 8, []], [1]),
            ((SHOW, ["show", 0]), STATE, 1),
            ((SHOW,), (WORDS, WORDS, [1]), 1),
            ((SHOW,), (WORDS, [{0: 1}] * 8, ()), {}),
            ((("put", 1, 1, 1), SHOW), state_of((1, 2), (3,), (4,)), 2),
        ):
            kept = copy.deepcopy((program, state, most))
            for call in (lambda: ran(program, state, most), lambda: ended(program, state)):
                try:
                    call()
                except ValueError:
                    pass
                self.assertEqual((program, state, most), kept)

    def test_a_call_is_the_same_twice(self):
        program = (("sum", 0, 0, 0, 1), ("put", 0, 0, 0), SHOW)
        self.assertEqual(ended(program, STATE), ended(program, STATE))
        with self.assertRaises(TooLong):
            ended(LOOP, STATE)
        self.assertEqual(ran(LOOP, STATE, 3), (STATE, 0, 3))


if __name__ == "__main__":
    unittest.main()
