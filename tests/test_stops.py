"""Points 20 and 21: stops, designs that stop cleanly, and stops that are not clean."""

import itertools
import random
import unittest

from tests.samples import (
    ALL_HOMES, APART, EVENTS, GOAL, KINDS, NEXT, STATE, TOLD, design_of, random_case,
    random_program, row_of, state_of, whole,
)
from windowbelt.designs import with_table
from windowbelt.errors import TooLong
from windowbelt.plain import ended, ran
from windowbelt.rights import first_shown, is_forced, is_right, least_table, needs
from windowbelt.stops import stopped, stops_cleanly, unclean
from windowbelt.windows import events_behind, run, stand

PAIRS = tuple(itertools.product(sorted(KINDS), repeat=2))
IFS = (("if", 5, 3), ("if", 4, 0), ("if", 4, 0), ("set", 0, 5))


def entry_for(kind, other):
    """What point 20 asks for, for two kinds."""
    return ("any", kind, other, "make" if (kind, other) == ("if", "if") else "out", "out")


STOPS = tuple(entry_for(kind, other) for kind, other in PAIRS)


def clean_design(lacking=(), more=(), **choices):
    """A right design with an entry for each pair of kinds but those that are lacking."""
    design = design_of(**choices)
    table = {entry for entry in STOPS if entry[1:3] not in lacking} | set(more)
    return with_table(design, tuple(sorted(table | set(least_table(design)))))


class Examples(unittest.TestCase):
    def test_answers(self):
        design = (1, False, True, ("write", "out", "out"), ())
        row = (("lay",), ("read", 0), ("make", 0), ("write", 0))
        self.assertEqual(
            [
                stops_cleanly(design), stops_cleanly((1, False, True, ("out",) * 3, ())),
                unclean(design)[3] == row,
                stopped(design, (("set", 0, 5),), STATE, NEXT, row),
            ],
            [False, True, True, (((5, 0, 0, 0, 0, 0, 0, 0), (0,) * 8, ()), 0)],
        )


class Stopped(unittest.TestCase):
    PROGRAM = (("set", 0, 5), ("put", 0, 1, 3), ("show", 0))

    def stopped(self, design, row, program=PROGRAM, state=STATE, guesser=NEXT):
        told = stopped(design, program, state, guesser, row_of(row))
        self.assertEqual([type(told), type(told[0]), type(told[1])], [tuple, tuple, int])
        return told

    def test_at_the_start(self):
        state = state_of((1, 2), (3,), (4, 5))
        self.assertEqual(self.stopped(design_of(), "", state=state), (state, 0))
        self.assertEqual(self.stopped(design_of(), "", program=(), state=state), (state, 0))

    def test_what_is_written_but_not_out(self):
        early = design_of(homes=("write", "write", "write"))
        row = "lay lay lay r0 m0 w0 r1 m1 w1 r2 m2 w2"
        told = (state_of((5,), (0, 0, 0, 5), (5,)), 0)
        self.assertEqual(self.stopped(early, row), told)
        self.assertEqual(self.stopped(design_of(), row), (STATE, 0))

    def test_in_the_middle_and_at_the_end(self):
        design = design_of()
        row = f"lay {whole(0)} lay lay r2 m2"
        self.assertEqual(self.stopped(design, row), (state_of((5,)), 1))
        row = f"lay {whole(0)} lay lay r2 m2 {whole(1)}"
        self.assertEqual(self.stopped(design, row), (state_of((5,), (0, 0, 0, 5)), 2))
        row += " w2 o2"
        self.assertEqual(self.stopped(design, row), ended(self.PROGRAM, STATE))

    def test_what_was_thrown_away(self):
        # What was out and is thrown away is not counted, but it had its effect.
        program = (("if", 0, 2), ("set", 1, 7), ("set", 2, 8))
        design = design_of()
        row = f"lay lay {whole(1)} r0"
        self.assertEqual(self.stopped(design, row, program), (state_of((0, 7)), 1))
        self.assertEqual(self.stopped(design, row + " m0", program), (state_of((0, 7)), 0))
        row = "lay lay r1 m1 w1 r0 m0 w0 o0"
        self.assertEqual(self.stopped(design, row, program), (STATE, 1))

    def test_it_is_as_it_stands(self):
        source = random.Random(20)
        for _ in range(100):
            design = design_of(homes=source.choice(ALL_HOMES), hands=source.random() < 0.5)
            program = random_program(source, 5)
            numbers = tuple(source.randrange(30) for _ in range(20))
            try:
                row = run(design, program, STATE, GOAL, numbers)[2]
            except TooLong:
                continue
            row = row[:source.randrange(len(row) + 1)]
            told = stand(design, program, STATE, GOAL, row)
            self.assertEqual(stopped(design, program, STATE, GOAL, row), (told[0], told[2]))


class StopsCleanly(unittest.TestCase):
    def assert_clean(self, design, clean=True):
        self.assertIs(stops_cleanly(design), clean, design)

    def test_with_each_entry(self):
        for width in (1, 2, 3, 4):
            for hands in (True, False):
                self.assert_clean(clean_design(width=width, hands=hands))

    def test_a_design_that_is_not_right(self):
        for need in needs(design_of()):
            if need[4] != "out":
                design = clean_design()
                table = tuple(entry for entry in design[4] if entry != need)
                if not is_right(with_table(design, table)):
                    self.assert_clean(with_table(design, table), False)
        self.assert_clean(design_of(*STOPS), False)
        self.assert_clean(design_of(inorder=True), False)

    def test_homes(self):
        for homes in ALL_HOMES:
            for choices in ({"width": 1}, {"width": 2}, {"inorder": True}):
                design = clean_design(homes=homes, **choices)
                self.assertIs(is_right(design), True)
                self.assert_clean(design, homes == ("out", "out", "out"))

    def test_each_entry_lacking(self):
        # Some of them are forced by the needs: none of those is lacking then.
        for pair in PAIRS:
            design = clean_design(lacking=(pair,))
            with self.subTest(pair=pair):
                self.assertIs(is_right(design), True)
                self.assert_clean(design, is_forced(design, entry_for(*pair)))
                self.assertIs(is_forced(design, entry_for(*pair)), pair == ("show", "show"))

    def test_without_shows(self):
        # The need of two shows is that the first one is out: this is what a stop asks for, too.
        self.assertIn(("shows", "show", "show", "out", "out"), needs(design_of()))
        self.assert_clean(clean_design(lacking=(("show", "show"),)))

    def test_by_width_and_by_order(self):
        self.assert_clean(design_of(width=1))
        for width in (2, 3, 4):
            for hands in (True, False):
                design = design_of(width=width, hands=hands, inorder=True)
                self.assert_clean(with_table(design, least_table(design)))
                design = design_of(width=width, hands=hands)
                self.assert_clean(with_table(design, least_table(design)), False)

    def test_two_ifs(self):
        for done, event, clean in (
            ("read", "out", False), ("make", "out", True), ("write", "out", True),
            ("out", "out", True), ("make", "lay", True), ("read", "lay", False),
        ):
            for relation in ("any", "jump"):
                entry = (relation, "if", "if", done, event)
                self.assert_clean(clean_design((("if", "if"),), (entry,)), clean)

    def test_by_other_entries(self):
        for entry, clean in (
            (("any", "set", "set", "out", "lay"), True),
            (("any", "set", "set", "out", "write"), True),
            (("any", "set", "set", "write", "out"), False),
            (("any", "set", "set", "write", "lay"), False),
            (("same", "set", "set", "out", "lay"), False),
            (("jump", "if", "show", "out", "out"), True),
            (("jump", "if", "show", "write", "lay"), False),
            (("memory", "put", "get", "out", "out"), True),
            (("memory", "get", "put", "out", "lay"), True),
            (("cells", "put", "put", "out", "lay"), True),
            (("cells", "put", "get", "out", "read"), True),
            (("cells", "put", "get", "out", "make"), False),
            (("cells", "put", "put", "out", "out"), False),
            (("feeds", "set", "show", "out", "lay"), False),
        ):
            self.assert_clean(clean_design((entry[1:3],), (entry,)), clean)

    def test_stops_of_random_runs(self):
        source = random.Random(21)
        tried = 0
        while tried < 150:
            choices = {"width": source.choice((2, 3, 4)), "hands": source.random() < 0.5}
            more = [
                ("any",) + source.choice(PAIRS) + (source.choice(EVENTS[1:]), source.choice(EVENTS))
                for _ in range(source.choice((0, 4)))
            ]
            design = clean_design(more=more, inorder=source.random() < 0.3, **choices)
            program, state, guesser, numbers = random_case(source)
            try:
                row = run(design, program, state, guesser, numbers)[2]
            except TooLong:
                continue
            tried += 1
            for many in range(len(row) + 1):
                last, out = stopped(design, program, state, guesser, row[:many])
                self.assertEqual(last, ran(program, state, out)[0], (design, program, row[:many]))


class Unclean(unittest.TestCase):
    def unclean(self, design):
        """What unclean tells, held against stopped and the plain machine."""
        told = unclean(design)
        self.assertIs(stops_cleanly(design), told is None)
        if told is not None:
            last, out = stopped(design, *told)
            self.assertNotEqual(last, ran(told[0], told[1], out)[0], (design, told))
        return told

    def test_none(self):
        self.assertIsNone(self.unclean(clean_design()))
        self.assertIsNone(self.unclean(design_of(width=1)))
        design = design_of(inorder=True, hands=False)
        self.assertIsNone(self.unclean(with_table(design, least_table(design))))

    def test_a_design_that_is_not_right(self):
        for homes in ALL_HOMES:
            for hands in (True, False):
                design = design_of(homes=homes, hands=hands)
                least = least_table(design)
                for many in range(len(least)):
                    wrong = with_table(design, least[:many])
                    self.assertEqual(self.unclean(wrong), first_shown(wrong))

    def test_each_need_missing(self):
        for homes in ALL_HOMES:
            design = design_of(homes=homes, width=2)
            least = least_table(design)
            for need in least:
                wrong = with_table(design, tuple(entry for entry in least if entry != need))
                self.assertEqual(self.unclean(wrong), first_shown(wrong))

    def test_a_home_that_is_write(self):
        row = row_of("lay r0 m0 w0")
        for homes in ALL_HOMES:
            for choices in ({"width": 1}, {"width": 3}, {"inorder": True}):
                design = clean_design(homes=homes, **choices)
                told = self.unclean(design)
                if homes[0] == "write":
                    self.assertEqual(told, ((("set", 0, 5),), TOLD, NEXT, row))
                elif homes[1] == "write":
                    self.assertEqual(told, ((("put", 2, 4, 0),), TOLD, NEXT, row))
                elif homes[2] == "write":
                    self.assertEqual(told, ((("show", 1),), TOLD, NEXT, row))
                else:
                    self.assertIsNone(told)

    def test_a_home_stands_ahead_of_pairs(self):
        design = design_of(homes=("out", "out", "write"))
        told = self.unclean(with_table(design, least_table(design)))
        self.assertEqual(told[0], (("show", 1),))

    def test_each_pair_alone(self):
        for pair in PAIRS:
            told = self.unclean(clean_design(lacking=(pair,)))
            with self.subTest(pair=pair):
                if pair == ("show", "show"):
                    self.assertIsNone(told)
                elif pair == ("if", "if"):
                    self.assertEqual(told[:3], (IFS, TOLD, NEXT))
                else:
                    program = (APART[pair[0]][0], APART[pair[1]][1])
                    self.assertEqual(told[:3], (program, TOLD, NEXT))
                    self.assertEqual(told[3][-1], ("out", 1))

    def test_the_least_pair_of_several(self):
        source = random.Random(22)
        for _ in range(60):
            lacking = [pair for pair in source.sample(PAIRS, 3) if pair != ("show", "show")]
            design = clean_design(lacking=lacking, width=source.choice((2, 3, 4)))
            told = self.unclean(design)
            if lacking:
                kinds = tuple(instruction[0] for instruction in told[0][:2])
                self.assertEqual(kinds, min(lacking))

    def test_the_row_of_the_pressing_hand(self):
        told = self.unclean(clean_design(lacking=(("set", "set"),)))
        self.assertEqual(told, (
            (("set", 0, 5), ("set", 1, 5)), TOLD, NEXT, row_of(f"lay lay {whole(1)}"),
        ))
        # The if must be made ahead of the out of what stands behind it: this is a need.
        told = self.unclean(clean_design(lacking=(("if", "put"),)))
        self.assertEqual(told, (
            (("if", 4, 0), ("put", 4, 4, 1)), TOLD, NEXT, row_of("lay lay r1 m1 w1 r0 m0 o1"),
        ))
        # A put waits until it is known that a get goes to another cell.
        told = self.unclean(clean_design(lacking=(("get", "put"),)))
        self.assertEqual(told, (
            (("get", 0, 4, 0), ("put", 4, 4, 1)), TOLD, NEXT, row_of("lay lay r1 m1 w1 r0 o1"),
        ))
        more = (("any", "sum", "set", "write", "lay"), ("any", "sum", "set", "write", "out"))
        told = self.unclean(clean_design(lacking=(("sum", "set"),), more=more))
        self.assertEqual(told, (
            (("sum", 0, 4, 4, 1), ("set", 1, 5)), TOLD, NEXT,
            row_of("lay r0 m0 w0 lay r1 m1 w1 o1"),
        ))

    def test_the_row_of_the_ifs(self):
        lacking = (("if", "if"),)
        rows = {
            2: f"lay lay {whole(1)} lay {whole(2)}",
            3: f"lay lay lay {whole(1)} {whole(2)}",
            4: f"lay lay lay {whole(1)} {whole(2)}",
        }
        for width, row in rows.items():
            told = self.unclean(clean_design(lacking, width=width))
            self.assertEqual(told, (IFS, TOLD, NEXT, row_of(row)))
        more = (("any", "if", "if", "read", "make"),)
        told = self.unclean(clean_design(lacking, more, width=3))
        self.assertEqual(told[3], row_of("lay lay lay r1 r2 r0 m1 w1 o1 m2 w2 o2"))
        more = (("jump", "if", "if", "read", "lay"),)
        told = self.unclean(clean_design(lacking, more, width=4))
        self.assertEqual(told[3], row_of(f"lay r0 lay r1 lay m1 w1 o1 {whole(2)}"))

    def test_the_row_of_the_ifs_by_its_words(self):
        source = random.Random(23)
        for _ in range(40):
            more = [
                (source.choice(("any", "jump")), "if", "if", "read", source.choice(EVENTS))
                for _ in range(source.randrange(3))
            ]
            design = clean_design((("if", "if"),), more, width=source.choice((2, 3, 4)))
            self.assertEqual(self.unclean(design), (IFS, TOLD, NEXT, self.row_of_ifs(design)))

    def row_of_ifs(self, design):
        row = ()
        while not {("out", 1), ("out", 2)} <= set(row):
            events = events_behind(design, IFS, TOLD, NEXT, row)
            laying = [event for event in events if len(event) == 1 and row.count(("lay",)) < 3]
            steps = [
                event for place in (1, 2, 0) for event in events if event[1:] == (place,)
            ]
            row += ((laying + steps)[0],)
        return row


if __name__ == "__main__":
    unittest.main()
