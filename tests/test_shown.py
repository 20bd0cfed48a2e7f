"""Points 17 to 19: programs and rows that show what a design is missing."""

import itertools
import unittest

from tests.samples import (
    ALL_HOMES, DESIGN, ENTRY, EVENTS, KINDS, NEXT, RELATIONS, design_of, row_of, whole,
)
from windowbelt.designs import with_table
from windowbelt.errors import NotMade
from windowbelt.rights import first_shown, is_forced, least_table, missing, needs, shown, shows
from windowbelt.windows import events_behind, stand

REGISTERS = (1, 2, 4, 3, 2, 0, 0, 0)
CELLS = (3, 6, 5, 7, 8, 11, 12, 0)
TOLD = (REGISTERS, CELLS, ())
EMPTIED = ((0,) + REGISTERS[1:], CELLS, ())
THIRD = ("set", 6, 9)
MAKERS = {"set": ("set", 0, 5), "sum": ("sum", 0, 4, 4, 1), "get": ("get", 0, 4, 0)}
EMPTIERS = {"set": ("set", 0, 0), "sum": ("sum", 0, 5, 5, 0), "get": ("get", 0, 4, 5)}
ELDERS = {"set": ("set", 0, 9), "sum": ("sum", 0, 2, 2, 0), "get": ("get", 0, 2, 0)}
USERS = {
    "sum": ("sum", 1, 0, 0, 0), "get": ("get", 1, 0, 0), "put": ("put", 2, 0, 0),
    "if": ("if", 0, 3), "show": ("show", 0),
}


def every_need():
    """Each need of point 14 with a design in which it is missing, and its program and state."""
    for homes in ALL_HOMES:
        for hands in (True, False):
            for width in (2, 3, 4):
                design = design_of(width=width, hands=hands, homes=homes)
                for need in needs(design):
                    yield design, need


def pressing(design, program, state, event):
    """The row of the pressing hand, by the words of point 19 and by stand alone."""
    row = ()
    while True:
        can, last = events_and_last(design, program, state, row)
        if last.get(1, -1) >= EVENTS.index(event):
            break
        first = [e for e in can if e[1:] == (0,)]
        second = [e for e in can if e[1:] == (1,)]
        laying = [e for e in can if e == ("lay",) and 1 not in last]
        row += ((laying + second + first)[0],)
    while can:
        first = [e for e in can if e[1:] == (0,)]
        others = [e for e in can if e != ("lay",)]
        row += ((first + others + can)[0],)
        can = events_and_last(design, program, state, row)[0]
    return row


def events_and_last(design, program, state, row):
    """The events that can come behind a row, and the number of the last one of each place."""
    can = list(events_behind(design, program, state, NEXT, row))
    last = {place: 0 for place in range(row.count(("lay",)))}
    for event in row:
        if event != ("lay",):
            last[event[1]] = EVENTS.index(event[0])
    return can, last


class Tables(unittest.TestCase):
    """The programs and states of point 18."""

    def program(self, design, need):
        program, state, guesser, row = shown(design, need)
        self.assertEqual(guesser, NEXT)
        self.assertEqual(state, EMPTIED if program[0] == ("if", 0, 3) else TOLD)
        return program

    def test_feeds(self):
        for kind, user in itertools.product(MAKERS, USERS):
            maker = EMPTIERS[kind] if user == "if" else MAKERS[kind]
            third = (THIRD,) if user == "if" else ()
            need = ("feeds", kind, user, "make", "read")
            self.assertEqual(self.program(DESIGN, need), (maker, USERS[user]) + third)

    def test_used(self):
        for kind, user in itertools.product(MAKERS, USERS):
            third = (THIRD,) if user == "if" else ()
            need = ("used", user, kind, "read", "write")
            self.assertEqual(self.program(DESIGN, need), (USERS[user], MAKERS[kind]) + third)

    def test_same(self):
        for kind, other in itertools.product(MAKERS, MAKERS):
            need = ("same", kind, other, "write", "write")
            self.assertEqual(self.program(DESIGN, need), (ELDERS[kind], MAKERS[other]))

    def test_cells(self):
        for need, program in (
            (("cells", "put", "get", "write", "make"), (("put", 2, 4, 0), ("get", 1, 4, 0))),
            (("cells", "get", "put", "make", "write"), (("get", 1, 4, 0), ("put", 2, 4, 0))),
            (("cells", "put", "put", "write", "write"), (("put", 2, 4, 0), ("put", 3, 4, 0))),
        ):
            self.assertEqual(self.program(DESIGN, need), program)

    def test_shows(self):
        need = ("shows", "show", "show", "out", "out")
        self.assertEqual(self.program(DESIGN, need), (("show", 1), ("show", 2)))

    def test_jump(self):
        for kind, jumped in list(MAKERS.items()) + [("put", ("put", 2, 4, 0)), ("show", ("show", 1))]:
            need = ("jump", "if", kind, "make", "out" if kind == "show" else "write")
            self.assertEqual(self.program(DESIGN, need), (("if", 5, 2), jumped))

    def test_state_and_program_are_sound_for_every_need(self):
        for design, need in every_need():
            program, state, guesser, row = shown(design, need)
            self.assertIn(state, (TOLD, EMPTIED))
            self.assertEqual(
                state == EMPTIED, need[0] == "used" and need[1] == "if", need
            )
            self.assertEqual([type(part) for part in shown(design, need)], [tuple] * 4)


class PressingRows(unittest.TestCase):
    def row(self, design, need):
        return shown(design, need)[3]

    def test_feeds(self):
        need = ("feeds", "set", "sum", "make", "read")
        self.assertEqual(
            self.row(DESIGN, need), row_of(f"lay lay r1 {whole(0)} m1 w1 o1")
        )

    def test_same(self):
        need = ("same", "sum", "get", "write", "write")
        self.assertEqual(self.row(DESIGN, need), row_of(f"lay lay r1 m1 w1 {whole(0)} o1"))
        need = ("same", "sum", "get", "out", "out")
        self.assertEqual(self.row(design_of(), need), row_of(f"lay lay {whole(1)} {whole(0)}"))

    def test_jump(self):
        need = ("jump", "if", "show", "make", "out")
        self.assertEqual(self.row(DESIGN, need), row_of(f"lay lay {whole(1)} {whole(0)}"))
        need = ("jump", "if", "put", "make", "write")
        self.assertEqual(self.row(DESIGN, need), row_of(f"lay lay r1 m1 w1 {whole(0)}"))

    def test_the_third_one(self):
        # The third one is laid last, behind all of the second one, also where there is room.
        need = ("feeds", "set", "if", "make", "read")
        for width in (2, 3, 4):
            design = (width,) + DESIGN[1:]
            self.assertEqual(
                self.row(design, need), row_of(f"lay lay r1 {whole(0)} m1 w1 o1 lay {whole(2)}")
            )
        need = ("used", "if", "set", "read", "write")
        self.assertEqual(
            self.row(DESIGN, need), row_of(f"lay lay r1 m1 w1 {whole(0)} o1 lay {whole(2)}")
        )

    def test_the_first_one_only_as_far_as_it_must(self):
        # Here the second one is laid behind the first one's read, and made behind its make.
        table = (("any", "set", "set", "make", "make"), ("any", "set", "set", "read", "lay"))
        need = ("same", "set", "set", "write", "write")
        self.assertEqual(
            self.row(DESIGN[:4] + (table,), need),
            row_of("lay r0 lay r1 m0 m1 w1 w0 o0 o1"),
        )

    def test_order(self):
        need = ("same", "set", "set", "write", "write")
        design = design_of(inorder=True, homes=("write", "out", "out"))
        self.assertEqual(self.row(design, need), row_of(f"lay lay r1 m1 w1 {whole(0)} o1"))

    def test_by_the_words_of_the_document(self):
        for design in (
            DESIGN, design_of(), design_of(hands=False, homes=("write",) * 3, width=2),
            design_of(inorder=True, homes=("write",) * 3),
            DESIGN[:4] + (tuple(sorted(
                ("any", kind, other, done, event) for kind in KINDS for other in KINDS
                for done, event in (("read", "lay"), ("make", "write"))
                if (kind, other) not in (("put", "get"), ("if", "put"))
            )),),
        ):
            for need in missing(design):
                program, state, guesser, row = shown(design, need)
                with self.subTest(design=design, need=need):
                    self.assertEqual(row, pressing(design, program, state, need[4]))


class AllNeeds(unittest.TestCase):
    def assert_shown(self, design, need):
        program, state, guesser, row = shown(design, need)
        self.assertIs(shows(design, program, state, guesser, row), True, (design, need))

    def test_every_need_in_designs_without_a_table(self):
        for design, need in every_need():
            self.assert_shown(design, need)

    def test_every_need_with_all_else_right(self):
        for inorder in (True, False):
            for hands in (True, False):
                for homes in ALL_HOMES:
                    design = design_of(width=2, inorder=inorder, hands=hands, homes=homes)
                    least = least_table(design)
                    for need in least:
                        fewer = tuple(other for other in least if other != need)
                        self.assert_shown(with_table(design, fewer), need)

    def test_with_one_entry_of_the_same_kinds(self):
        for need in needs(DESIGN)[::5]:
            for relation, done, event in itertools.product(RELATIONS, EVENTS[1:], EVENTS):
                design = with_table(DESIGN, ((relation,) + need[1:3] + (done, event),))
                if not is_forced(design, need):
                    self.assert_shown(design, need)

    def test_the_end_is_the_one_that_stand_tells(self):
        need = ("feeds", "set", "sum", "make", "read")
        told = stand(DESIGN, *shown(DESIGN, need))
        self.assertEqual(told, (((5, 2) + REGISTERS[2:], CELLS, ()), 2, 2, ()))


class NotMissing(unittest.TestCase):
    def assert_not_made(self, design, entry):
        with self.assertRaises(NotMade):
            shown(design, entry)

    def test_a_need_that_is_forced(self):
        for homes in ALL_HOMES:
            design = design_of(homes=homes)
            right = with_table(design, least_table(design))
            for need in needs(design):
                self.assert_not_made(right, need)
                self.assert_not_made((1,) + design[1:], need)
        for need in needs(design_of()):
            if need[4] == "out":
                self.assert_not_made(design_of(inorder=True), need)
        need = ("same", "set", "set", "write", "write")
        self.assert_not_made(DESIGN[:4] + ((("any", "set", "set", "write", "lay"),),), need)

    def test_an_entry_that_is_none_of_the_needs(self):
        for entry in (
            ENTRY, ("feeds", "set", "sum", "write", "read"), ("feeds", "set", "sum", "make", "make"),
            ("same", "set", "set", "out", "out"), ("feeds", "set", "set", "make", "read"),
            ("memory", "put", "get", "write", "make"), ("jump", "if", "if", "make", "write"),
            ("cells", "get", "get", "make", "make"), ("shows", "show", "show", "write", "write"),
        ):
            self.assert_not_made(DESIGN, entry)

    def test_a_need_of_another_design(self):
        for need in needs(design_of(homes=("out", "write", "write"), hands=False)):
            if need not in needs(DESIGN):
                self.assert_not_made(DESIGN, need)


class FirstShown(unittest.TestCase):
    def test_right_designs(self):
        for homes in ALL_HOMES:
            design = design_of(homes=homes)
            self.assertIsNone(first_shown(with_table(design, least_table(design))))
            self.assertIsNone(first_shown((1,) + design[1:]))

    def test_the_least_missing_one(self):
        for homes in ALL_HOMES:
            design = design_of(homes=homes, hands=False, width=2)
            least = least_table(design)
            for many in range(len(least)):
                wrong = with_table(design, least[:many])
                self.assertEqual(first_shown(wrong), shown(wrong, missing(wrong)[0]))

    def test_one_as_it_is(self):
        self.assertEqual(first_shown(DESIGN), (
            (("get", 1, 4, 0), ("put", 2, 4, 0)), TOLD, NEXT,
            row_of(f"lay lay r1 m1 w1 {whole(0)} o1"),
        ))
        least = least_table(DESIGN)
        without = tuple(need for need in least if need[:3] != ("used", "if", "get"))
        without = tuple(need for need in without if need[:3] != ("jump", "if", "get"))
        self.assertEqual(first_shown(with_table(DESIGN, without)), (
            (("if", 5, 2), ("get", 0, 4, 0)), TOLD, NEXT,
            row_of(f"lay lay r1 m1 w1 {whole(0)}"),
        ))


if __name__ == "__main__":
    unittest.main()
