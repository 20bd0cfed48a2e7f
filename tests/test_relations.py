"""Points 6 and 10: which events the entries of a table hold back, in the window."""

import unittest

from tests.samples import (
    EVENTS, GOAL, KINDS, NEXT, RELATIONS, design_of, row_of, state_of, whole,
)
from windowbelt.windows import events_behind

# Register 1 holds 1, and so on.
STATE = state_of(range(8), range(10, 18))
# An instruction of each kind, apart from each other one: they use and write unlike registers.
APART = {
    "set": ("set", 0, 5), "sum": ("sum", 1, 5, 6, 0), "get": ("get", 2, 5, 0),
    "put": ("put", 6, 5, 1), "if": ("if", 7, 0), "show": ("show", 7),
}


class Holding(unittest.TestCase):
    def can(self, entries, program, row, event, guesser=NEXT):
        """Whether an event can come behind a row, the table having these entries."""
        events = events_behind(design_of(*entries), program, STATE, guesser, row_of(row))
        return row_of(event)[0] in events

    def assert_held(self, entry, program, row, event):
        """The entry holds an event back that could come without it."""
        self.assertTrue(self.can((), program, row, event))
        self.assertFalse(self.can((entry,), program, row, event))

    def assert_free(self, entry, program, row, event):
        self.assertTrue(self.can((entry,), program, row, event))

    def assert_never_held(self, entry, program):
        """No event of the second of two instructions is held back, whichever the entry names."""
        row = "lay"
        for name, event in zip(EVENTS, ("lay", "r1", "m1", "w1", "o1")):
            self.assert_free(entry[:4] + (name,), program, row, event)
            row += " " + event


class Feeds(Holding):
    ENTRY = ("feeds", "set", "sum", "make", "read")

    def test_holds_until_the_earlier_one_has_done_its_event(self):
        program = (("set", 0, 5), ("sum", 1, 0, 2, 0))
        self.assert_held(self.ENTRY, program, "lay lay", "r1")
        self.assert_held(self.ENTRY, program, "lay lay r0", "r1")
        self.assert_free(self.ENTRY, program, "lay lay r0 m0", "r1")
        self.assert_free(self.ENTRY, program, "lay lay r0 m0 w0", "r1")
        self.assert_free(self.ENTRY, program, "lay lay r0 m0 w0 o0", "r1")

    def test_another_register(self):
        for program in (
            (("set", 0, 5), ("sum", 0, 1, 2, 0)), (("set", 3, 5), ("sum", 1, 0, 2, 0)),
        ):
            self.assert_never_held(self.ENTRY, program)

    def test_the_earlier_one_only_uses_it(self):
        self.assert_never_held(
            ("feeds", "sum", "sum", "out", "read"), (("sum", 1, 0, 0, 0), ("sum", 2, 0, 0, 0))
        )

    def test_only_the_last_writer_ahead(self):
        program = (("set", 0, 5), ("set", 0, 6), ("sum", 1, 0, 2, 0))
        self.assert_held(self.ENTRY, program, "lay lay lay r0 m0 w0", "r2")
        self.assert_free(self.ENTRY, program, "lay lay lay r1 m1", "r2")

    def test_a_last_writer_of_another_kind(self):
        program = (("set", 0, 5), ("get", 0, 3, 0), ("sum", 1, 0, 2, 0))
        self.assert_free(self.ENTRY, program, "lay lay lay", "r2")
        self.assert_held(("feeds", "get", "sum", "make", "read"), program, "lay lay lay", "r2")

    def test_a_last_writer_that_is_out(self):
        program = (("set", 0, 5), ("set", 0, 6), ("sum", 1, 0, 2, 0))
        self.assert_free(self.ENTRY, program, "lay lay lay " + whole(1), "r2")

    def test_a_writer_behind(self):
        program = (("sum", 1, 0, 2, 0), ("set", 0, 5))
        self.assert_free(self.ENTRY, program, "lay lay", "r0")
        self.assert_never_held(("feeds", "sum", "set", "out", "read"), program)

    def test_two_registers_have_a_last_writer_each(self):
        for first, second in ((0, 3), (3, 0)):
            program = (("set", first, 5), ("set", second, 6), ("sum", 1, 0, 3, 0))
            self.assert_held(self.ENTRY, program, "lay lay lay r1 m1", "r2")
            self.assert_held(self.ENTRY, program, "lay lay lay r0 m0", "r2")
            self.assert_free(self.ENTRY, program, "lay lay lay r0 m0 r1 m1", "r2")

    def test_each_register_that_an_instruction_uses(self):
        for user in (
            ("sum", 1, 0, 2, 0), ("sum", 1, 2, 0, 0), ("get", 1, 0, 0), ("put", 0, 2, 0),
            ("put", 2, 0, 0), ("if", 0, 0), ("show", 0),
        ):
            entry = ("feeds", "set", user[0], "make", "read")
            with self.subTest(user=user):
                self.assert_held(entry, (("set", 0, 5), user), "lay lay", "r1")

    def test_each_writing_kind(self):
        for writer in (("set", 0, 5), ("sum", 0, 2, 3, 0), ("get", 0, 2, 0)):
            entry = ("feeds", writer[0], "show", "out", "read")
            with self.subTest(writer=writer):
                program = (writer, ("show", 0))
                self.assert_held(entry, program, "lay lay r0 m0 w0", "r1")
                self.assert_free(entry, program, "lay lay r0 m0 w0 o0", "r1")
                self.assert_never_held(entry, (writer, ("show", 1)))

    def test_the_next_one_is_not_laid(self):
        entry = ("feeds", "set", "show", "write", "lay")
        program = (("set", 0, 5), ("set", 1, 6), ("show", 0))
        self.assert_held(entry, program, "lay lay " + whole(1), "lay")
        self.assert_free(entry, program, "lay lay r0 m0 w0", "lay")
        self.assert_free(entry, program[:2] + (("show", 2),), "lay lay", "lay")


class Used(Holding):
    ENTRY = ("used", "show", "set", "read", "write")

    def test_holding_and_not(self):
        program = (("show", 0), ("set", 0, 5))
        self.assert_held(self.ENTRY, program, "lay lay r1 m1", "w1")
        self.assert_free(self.ENTRY, program, "lay lay r1 m1 r0", "w1")
        self.assert_never_held(self.ENTRY, (("show", 1), ("set", 0, 5)))

    def test_each_register_that_an_instruction_uses(self):
        for user in (
            ("sum", 1, 0, 2, 0), ("sum", 1, 2, 0, 0), ("get", 1, 0, 0), ("put", 0, 2, 0),
            ("put", 2, 0, 0), ("if", 0, 0), ("show", 0),
        ):
            for writer in (("set", 0, 5), ("sum", 0, 3, 3, 0), ("get", 0, 3, 0)):
                entry = ("used", user[0], writer[0], "read", "read")
                with self.subTest(user=user, writer=writer):
                    self.assert_held(entry, (user, writer), "lay lay", "r1")
                    self.assert_free(entry, (user, writer), "lay lay r0", "r1")
                    self.assert_never_held(entry, (user, writer[:1] + (7,) + writer[2:]))

    def test_each_earlier_one_counts(self):
        program = (("show", 0), ("show", 0), ("set", 0, 5))
        self.assert_held(self.ENTRY, program, "lay lay lay r2 m2 r1", "w2")
        self.assert_free(self.ENTRY, program, "lay lay lay r2 m2 r1 r0", "w2")

    def test_a_writer_ahead(self):
        self.assert_never_held(
            ("used", "sum", "sum", "out", "read"), (("sum", 0, 2, 2, 0), ("sum", 1, 0, 0, 0))
        )


class Same(Holding):
    def test_holding_and_not(self):
        writers = (("set", 0, 5), ("sum", 0, 3, 3, 0), ("get", 0, 3, 0))
        for first in writers:
            for second in writers:
                entry = ("same", first[0], second[0], "write", "make")
                with self.subTest(first=first, second=second):
                    self.assert_held(entry, (first, second), "lay lay r0 m0 r1", "m1")
                    self.assert_free(entry, (first, second), "lay lay r0 m0 w0 r1", "m1")
                    apart = second[:1] + (6,) + second[2:]
                    self.assert_never_held(entry, (first, apart))

    def test_also_one_that_is_not_the_last(self):
        entry = ("same", "set", "set", "out", "read")
        program = (("set", 0, 5), ("set", 0, 6), ("set", 0, 7))
        self.assert_held(entry, program, "lay lay lay " + whole(0), "r2")
        self.assertFalse(self.can((entry,), program, "lay lay lay", "r2"))
        self.assertTrue(self.can((entry,), program, f"lay lay lay {whole(0)} {whole(1)}", "r2"))


class Cells(Holding):
    ENTRY = ("cells", "put", "get", "write", "make")
    # Register 2 and 0 are cell 2, and so are register 4 and 6.
    ALIKE = (("put", 1, 2, 0), ("get", 0, 4, 6))
    UNLIKE = (("put", 1, 2, 0), ("get", 0, 4, 0))

    def test_behind_both_reads(self):
        self.assert_held(self.ENTRY, self.ALIKE, "lay lay r0 r1", "m1")
        self.assert_held(self.ENTRY, self.ALIKE, "lay lay r1 r0 m0", "m1")
        self.assert_free(self.ENTRY, self.ALIKE, "lay lay r1 r0 m0 w0", "m1")
        self.assert_free(self.ENTRY, self.UNLIKE, "lay lay r0 r1", "m1")
        self.assert_free(self.ENTRY, self.UNLIKE, "lay lay r1 r0", "m1")

    def test_ahead_of_the_read_of_the_earlier_one(self):
        for program in (self.ALIKE, self.UNLIKE):
            self.assert_held(self.ENTRY, program, "lay lay r1", "m1")

    def test_ahead_of_the_read_of_the_later_one(self):
        for event, row in (("lay", "lay r0"), ("r1", "lay lay r0")):
            entry = ("cells", "put", "get", "write", {"lay": "lay", "r1": "read"}[event])
            for program in (self.ALIKE, self.UNLIKE):
                with self.subTest(event, program=program):
                    self.assert_held(entry, program, row, event)
                    self.assert_held(entry, program, row + " m0", event)
                    self.assert_free(entry, program, row + " m0 w0", event)

    def test_kinds(self):
        numbers = {"put": (1, 2, 0), "get": (0, 2, 0)}
        for first, second in (("put", "get"), ("get", "put"), ("put", "put"), ("get", "get")):
            entry = ("cells", first, second, "make", "make")
            program = ((first,) + numbers[first], (second,) + numbers[second])
            unlike = program[:1] + (program[1][:3] + (1,),)
            with self.subTest(first, second=second):
                if first == second == "get":
                    self.assert_never_held(entry, program)
                else:
                    self.assert_held(entry, program, "lay lay r0 r1", "m1")
                    self.assert_free(entry, program, "lay lay r0 m0 r1", "m1")
                    self.assert_free(entry, unlike, "lay lay r0 r1", "m1")

    def test_the_cell_is_the_one_that_was_read(self):
        # Register 2 holds 2 when it is read by the put, and 3 behind the set.
        program = (("put", 1, 2, 0), ("set", 2, 3), ("get", 0, 2, 0))
        row = f"lay lay lay r0 {whole(1)} r2"
        self.assert_free(self.ENTRY, program, row, "m2")
        self.assert_held(self.ENTRY, program[:2] + (("get", 0, 2, 7),), row, "m2")


class Memory(Holding):
    def test_every_cell(self):
        for first, second in (("put", "get"), ("get", "put"), ("put", "put")):
            entry = ("memory", first, second, "make", "make")
            for cell in (0, 1):
                program = ((first, 1, 2, 0), (second, 0, 2, cell))
                with self.subTest(first, second=second, cell=cell):
                    self.assert_held(entry, program, "lay lay r0 r1", "m1")
                    self.assert_free(entry, program, "lay lay r0 m0 r1", "m1")

    def test_others(self):
        program = (("get", 1, 2, 0), ("get", 0, 2, 0))
        self.assert_never_held(("memory", "get", "get", "out", "read"), program)
        program = (("put", 1, 2, 0), ("show", 1))
        self.assert_never_held(("memory", "put", "show", "out", "read"), program)


class ShowsAndJump(Holding):
    def test_shows(self):
        entry = ("shows", "show", "show", "out", "read")
        program = (("show", 0), ("show", 1))
        self.assert_held(entry, program, "lay lay r0 m0 w0", "r1")
        self.assert_free(entry, program, "lay lay r0 m0 w0 o0", "r1")
        self.assert_never_held(
            ("shows", "show", "set", "out", "read"), (("show", 0), ("set", 0, 1))
        )

    def test_jump(self):
        for kind, instruction in APART.items():
            entry = ("jump", "if", kind, "make", "lay")
            program = (("if", 1, 0), instruction)
            with self.subTest(kind):
                self.assert_held(entry, program, "lay", "lay")
                self.assert_held(entry, program, "lay r0", "lay")
                self.assert_free(entry, program, "lay r0 m0", "lay")

    def test_no_jump(self):
        self.assert_never_held(
            ("jump", "show", "if", "out", "lay"), (("show", 0), ("if", 1, 0))
        )


class Any(Holding):
    def test_any_holds_for_these_kinds_only(self):
        for kind in KINDS:
            for other in KINDS:
                program = (APART[kind], APART[other])
                for entry in (
                    ("any", kind, other, "write", "make"), ("any", kind, other, "make", "lay"),
                    ("any", kind, other, "out", "out"), ("any", kind, other, "read", "write"),
                ):
                    with self.subTest(entry=entry):
                        self.check_any(entry, program)
                    for unlike in KINDS:
                        if unlike != kind:
                            self.assert_never_held(("any", unlike) + entry[2:], program)
                        if unlike != other:
                            self.assert_never_held(entry[:2] + (unlike,) + entry[3:], program)

    def check_any(self, entry, program):
        ahead = {
            "lay": "lay", "make": "lay lay r1", "write": "lay lay r1 m1", "out": "lay lay r1 m1 w1"
        }[entry[4]]
        event = {"lay": "lay", "make": "m1", "write": "w1", "out": "o1"}[entry[4]]
        steps = ["r0", "m0", "w0", "o0"]
        needed = {"read": 1, "make": 2, "write": 3, "out": 4}[entry[3]]
        for done in range(5):
            row = " ".join([ahead] + steps[:done])
            held = done < needed
            self.assertEqual(self.can((entry,), program, row, event), not held, row)

    def test_other_relations_do_not_hold_for_apart_ones(self):
        # Kinds for which a relation holds always are left out here.
        for relation in RELATIONS[:4]:
            for kind in KINDS:
                for other in KINDS:
                    if relation == "cells" and "put" in (kind, other):
                        continue
                    if kind == other:
                        continue
                    program = (APART[kind], APART[other])
                    self.assert_never_held((relation, kind, other, "out", "read"), program)


class Several(Holding):
    def test_each_entry_counts(self):
        program = (("set", 0, 5), ("set", 0, 6))
        entries = (("any", "set", "set", "read", "read"), ("same", "set", "set", "write", "read"))
        self.assertFalse(self.can(entries, program, "lay lay r0", "r1"))
        self.assertTrue(self.can(entries[:1], program, "lay lay r0", "r1"))
        self.assertTrue(self.can(entries, program, "lay lay r0 m0 w0", "r1"))

    def test_each_earlier_one_counts(self):
        program = (("set", 0, 5), ("set", 1, 6), ("show", 7))
        entry = ("any", "set", "show", "make", "read")
        self.assert_held(entry, program, "lay lay lay r0 m0", "r2")
        self.assert_held(entry, program, "lay lay lay r1 m1", "r2")
        self.assert_free(entry, program, "lay lay lay r1 m1 r0 m0", "r2")

    def test_only_the_event_of_the_entry_is_held_back(self):
        program = (("set", 0, 5), ("set", 1, 6))
        entry = ("any", "set", "set", "out", "make")
        self.assert_free(entry, program, "lay", "lay")
        self.assert_free(entry, program, "lay lay", "r1")
        self.assert_held(entry, program, "lay lay r1", "m1")
        self.assert_free(entry, program, f"lay lay r1 {whole(0)}", "m1")

    def test_later_ones_do_not_hold_back(self):
        program = (("set", 0, 5), ("set", 0, 6))
        entry = ("any", "set", "set", "out", "read")
        self.assert_free(entry, program, "lay lay", "r0")

    def test_one_that_was_thrown_away_does_not_hold_back(self):
        # The if jumps to the last show; the one behind it is thrown away then.
        program = (("if", 0, 2), ("show", 1), ("show", 2))
        entry = ("any", "show", "show", "out", "lay")
        self.assert_held(entry, program, "lay lay r0", "lay")
        self.assert_free(entry, program, "lay lay r0 m0", "lay")

    def test_one_that_was_thrown_away_is_no_last_writer(self):
        # Behind the row, the set of place 0 is the last writer, not that of place 2.
        program = (("set", 1, 3), ("if", 0, 3), ("set", 1, 4), ("show", 1))
        entry = ("feeds", "set", "show", "make", "read")
        self.assert_held(entry, program, "lay lay lay r2 m2 r1 m1 lay", "r3")
        self.assert_free(entry, program, "lay lay lay r1 m1 lay r0 m0", "r3")

    def test_laid_by_the_goal(self):
        program = (("if", 1, 2), ("set", 1, 4), ("show", 1))
        entry = ("jump", "if", "show", "make", "read")
        self.assertFalse(self.can((entry,), program, "lay lay", "r1", GOAL))
        self.assertTrue(self.can((), program, "lay lay", "r1", GOAL))


if __name__ == "__main__":
    unittest.main()
