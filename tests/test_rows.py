"""Point 12: rows of events, and the first item that is no event that can come there."""

import copy
import unittest

from tests.samples import (
    DESIGN, ENTRY, GOAL, NEXT, NO_TUPLES, NO_WORDS, STATE, design_of, row_of, state_of, whole,
)
from windowbelt.errors import BadRow, WindowError
from windowbelt.rights import shows
from windowbelt.windows import events_behind, has_ended, stand

CALLS = (events_behind, stand, has_ended, shows)
PROGRAM = (("set", 0, 5), ("show", 0), ("show", 1))
# Instructions 0 and 1 again and again.
LOOP = (("show", 1), ("if", 0, 0))


class Rows(unittest.TestCase):
    def assert_bad(self, row, index, design=DESIGN, program=PROGRAM, guesser=NEXT):
        for call in CALLS:
            with self.assertRaises(BadRow) as caught:
                call(design, program, STATE, guesser, row)
            self.assertEqual(vars(caught.exception), {"index": index})
            self.assertNotIsInstance(caught.exception.index, bool)

    def assert_good(self, row, design=DESIGN, program=PROGRAM, guesser=NEXT):
        for call in CALLS:
            call(design, program, STATE, guesser, row)


class Tuples(Rows):
    def test_no_tuples(self):
        for value in NO_TUPLES + ([("lay",)], {("lay",): 0}, "lay"):
            with self.subTest(value=value):
                self.assert_bad(value, None)

    def test_600_and_601_events(self):
        events = [("lay",), ("read", 0), ("make", 0), ("write", 0), ("out", 0)]
        design = design_of(width=1)
        row = tuple(
            event if event == ("lay",) else (event[0], place)
            for place in range(121) for event in events
        )
        for many in (599, 600):
            self.assert_good(row[:many], design, LOOP, GOAL)
        told = stand(design, LOOP, STATE, GOAL, row[:600])
        self.assertEqual(told, (state_of((), (), (0,) * 60), 0, 120, ()))
        self.assertEqual(events_behind(design, LOOP, STATE, GOAL, row[:600]), (("lay",),))
        self.assert_bad(row[:601], None, design, LOOP, GOAL)
        self.assert_bad(row, None, design, LOOP, GOAL)

    def test_the_number_of_items_stands_ahead_of_a_wrong_item(self):
        self.assert_bad((None,) * 601, None)
        self.assert_bad((None,) * 600, 0)
        self.assert_bad((("lay",),) * 601, None)

    def test_an_event_alone_is_no_row(self):
        self.assert_bad(("lay",), 0)
        self.assert_bad(("read", 0), 0)


class Items(Rows):
    def test_no_events(self):
        ahead = row_of("lay lay r1")
        for value in NO_WORDS:
            if value == ("lay",):
                continue
            for item in (value, (value,), (value, 0), ("read", value)):
                if item == ("read", 0) and value is not False or item == ("lay",):
                    continue
                with self.subTest(item=item):
                    self.assert_bad(ahead + (item,), 3)
                    self.assert_bad(ahead + (item, None), 3)

    def test_places_are_no_truths(self):
        # Just then ("read", 0) and ("read", 1) can come.
        ahead = row_of("lay lay")
        self.assert_good(ahead + (("read", 0),))
        self.assert_good(ahead + (("read", 1),))
        self.assert_bad(ahead + (("read", False),), 2)
        self.assert_bad(ahead + (("read", True),), 2)

    def test_forms_that_are_none(self):
        ahead = row_of("lay lay")
        for item in (
            ("lay", 0), ("lay", 2), ["lay"], ["read", 0], ("read",), ("read", 0, 0), ("read", (0,)),
            ("read", "0"), (0, "read"), (("lay",),), (("read", 0),), "lay", "read", (), None,
            WindowError("lay"), {"read": 0}, (1, 0), ("READ", 0), ("lay", None), ("none", 0),
        ):
            with self.subTest(item=item):
                self.assert_bad(ahead + (item,), 2)

    def test_places_that_are_not_there(self):
        for place in (2, 3, 40, 10 ** 30, -1, -2, -(10 ** 30)):
            with self.subTest(place=place):
                self.assert_bad(row_of("lay lay") + (("read", place),), 2)

    def test_not_in_their_order(self):
        self.assert_bad(row_of("r0"), 0)
        for row in ("lay m0", "lay w0", "lay o0"):
            self.assert_bad(row_of(row), 1)
        self.assert_bad(row_of("lay r0 r0"), 2)
        self.assert_bad(row_of("lay r0 w0"), 2)
        self.assert_bad(row_of("lay r0 m0 o0"), 3)
        self.assert_bad(row_of("lay r0 m0 m0 w0"), 3)

    def test_the_first_wrong_item_is_told(self):
        self.assert_bad(row_of("lay r0 o0 o0 o0"), 2)
        self.assert_bad(row_of("lay m1 lay m0"), 1)
        self.assert_bad((None, None), 0)

    def test_a_place_that_is_out(self):
        for event in ("r0", "m0", "w0", "o0"):
            self.assert_bad(row_of(f"lay {whole(0)} {event}"), 5)

    def test_a_place_that_was_thrown_away(self):
        program = (("if", 0, 2), ("show", 0), ("show", 1))
        self.assert_good(row_of("lay lay r1 r0 m0 lay r2"), program=program)
        for event in ("r1", "m1", "w1", "o1"):
            self.assert_bad(row_of(f"lay lay r1 r0 m0 {event}"), 5, program=program)
            self.assert_bad(row_of(f"lay lay r1 r0 m0 lay {event}"), 6, program=program)

    def test_laying_that_cannot_come(self):
        self.assert_bad(row_of("lay lay lay"), 2)
        self.assert_bad(row_of("lay lay"), 1, design_of(width=1))
        self.assert_bad(row_of("lay lay lay lay"), 3, design_of(width=4))
        self.assert_bad(row_of("lay"), 0, program=())
        held = design_of(("any", "set", "show", "read", "lay"))
        self.assert_bad(row_of("lay lay"), 1, held)
        self.assert_good(row_of("lay r0 lay"), held)

    def test_events_that_are_held_back(self):
        held = design_of(("any", "set", "show", "make", "read"))
        self.assert_bad(row_of("lay lay r0 r1"), 3, held)
        self.assert_good(row_of("lay lay r0 m0 r1"), held)

    def test_out_that_is_held_back_by_order(self):
        row = row_of(f"lay lay {whole(1)}")
        self.assert_good(row, design_of(inorder=False))
        self.assert_bad(row, 5, design_of(inorder=True))

    def test_behind_the_end(self):
        row = f"lay lay {whole(0)} {whole(1)} lay {whole(2)}"
        self.assert_good(row_of(row))
        for event in ("lay", "r2", "r3", "o0"):
            self.assert_bad(row_of(f"{row} {event}"), 15)

    def test_every_event_that_can_come_and_no_other(self):
        program = PROGRAM + (("if", 0, 0), ("put", 1, 2, 3))
        design = design_of(ENTRY, ("any", "set", "show", "make", "write"), inorder=True)
        row = row_of("lay lay r1 m1 lay r0 lay r3 m3")
        for many in range(len(row) + 1):
            can = events_behind(design, program, STATE, NEXT, row[:many])
            self.assertEqual(row[many:many + 1], tuple(e for e in can if e in row[many:many + 1]))
            for event in row_of("lay r0 m0 w0 o0 r1 m1 w1 o1 r2 m2 w2 r3 m3 w3 r4"):
                if event in can:
                    self.assert_good(row[:many] + (event,), design, program)
                else:
                    self.assert_bad(row[:many] + (event,), many, design, program)


class Arguments(unittest.TestCase):
    def test_arguments_stay_as_they_are(self):
        for row in ([["lay"]], (("lay",), ["read", 0]), (("lay",), {0: [1]}), row_of("lay lay r1")):
            given = (DESIGN, PROGRAM, state_of((1, 2), (3,), (4,)), ("row", (1, 2)), row)
            kept = copy.deepcopy(given)
            for call in CALLS:
                try:
                    call(*given)
                except ValueError:
                    pass
                self.assertEqual(given, kept)


if __name__ == "__main__":
    unittest.main()
