"""Points 14 to 16: needs, what forces them, right designs, least tables, and shows."""

import random
import unittest

from tests.samples import (
    ALL_HOMES, DESIGN, EVENTS, GOAL, KINDS, NEXT, RELATIONS, STATE, WRITING, design_of,
    random_case, row_of, state_of, whole,
)
from windowbelt.designs import may_hold, with_table
from windowbelt.errors import NotMade, TooLong
from windowbelt.plain import ended, ran
from windowbelt.rights import is_forced, is_right, least_table, missing, needs, shown, shows
from windowbelt.windows import has_ended, run, stand

OTHERS = ("sum", "get", "put", "if", "show")
AT_CELLS = (("put", "get"), ("get", "put"), ("put", "put"))


def all_designs(table=()):
    """A design with this table for each choice of the rest."""
    for width in (1, 2, 3, 4):
        for inorder in (True, False):
            for hands in (True, False):
                for homes in ALL_HOMES:
                    yield (width, inorder, hands, homes, table)


class Examples(unittest.TestCase):
    def test_answers(self):
        need = ("feeds", "set", "sum", "make", "read")
        self.assertEqual(
            [
                len(needs(DESIGN)), is_forced(DESIGN, need), missing(DESIGN)[0], is_right(DESIGN),
                len(least_table(DESIGN)), shown(DESIGN, need)[0], shown(DESIGN, need)[3][:3],
            ],
            [
                48, False, ("cells", "get", "put", "make", "write"), False, 44,
                (("set", 0, 5), ("sum", 1, 0, 0, 0)), (("lay",), ("lay",), ("read", 1)),
            ],
        )

    def test_error(self):
        need = ("feeds", "set", "sum", "make", "read")
        with self.assertRaises(NotMade):
            shown(DESIGN[:4] + (least_table(DESIGN),), need)


class Needs(unittest.TestCase):
    def expected(self, hands, homes):
        register_home, cell_home, show_home = homes
        made = "make" if hands else register_home
        found = []
        for one in WRITING:
            found += [("feeds", one, other, made, "read") for other in OTHERS]
            found += [("used", other, one, "read", register_home) for other in OTHERS]
            found += [("same", one, other, register_home, register_home) for other in WRITING]
        found += [
            ("cells", "put", "get", cell_home, "make"), ("cells", "get", "put", "make", cell_home),
            ("cells", "put", "put", cell_home, cell_home),
            ("shows", "show", "show", show_home, show_home),
            ("jump", "if", "set", "make", register_home),
            ("jump", "if", "sum", "make", register_home),
            ("jump", "if", "get", "make", register_home),
            ("jump", "if", "put", "make", cell_home),
            ("jump", "if", "show", "make", show_home),
        ]
        return tuple(sorted(found))

    def test_for_every_choice_of_hands_and_homes(self):
        for design in all_designs():
            with self.subTest(design=design):
                told = needs(design)
                self.assertIs(type(told), tuple)
                self.assertEqual(told, self.expected(design[2], design[3]))
                self.assertEqual(len(told), 48)

    def test_whatever_the_table_is(self):
        table = least_table(DESIGN)
        self.assertEqual(needs(with_table(DESIGN, table)), needs(DESIGN))

    def test_all_can_hold(self):
        self.assertEqual([need for need in needs(DESIGN) if not may_hold(need)], [])


class Forced(unittest.TestCase):
    """Each clause of point 15, in designs of width 4 without order but where it is told."""

    def assert_forced(self, entry, *table, **choices):
        self.assertIs(is_forced(design_of(*table, **choices), entry), True)

    def assert_not_forced(self, entry, *table, **choices):
        self.assertIs(is_forced(design_of(*table, **choices), entry), False)

    def test_by_width_1(self):
        for entry in (
            ("any", "set", "set", "out", "lay"), ("feeds", "set", "sum", "make", "read"),
            ("jump", "if", "if", "out", "write"),
        ):
            self.assert_forced(entry, width=1)
            for width in (2, 3, 4):
                self.assert_not_forced(entry, width=width)

    def test_by_order(self):
        for relation, kind, other in (
            ("any", "set", "set"), ("feeds", "set", "sum"), ("cells", "put", "put"),
        ):
            for event in EVENTS:
                entry = (relation, kind, other, "out", event)
                self.assertIs(is_forced(design_of(inorder=True), entry), event == "out")
                self.assert_not_forced(entry, inorder=False)

    def test_by_never_holding(self):
        for relation, kind, other in (
            ("feeds", "put", "sum"), ("feeds", "set", "set"), ("used", "set", "set"),
            ("used", "sum", "put"), ("same", "set", "if"), ("cells", "get", "get"),
            ("memory", "put", "show"), ("shows", "show", "put"), ("jump", "set", "if"),
        ):
            for done, event in (("read", "lay"), ("out", "lay"), ("out", "out")):
                self.assert_forced((relation, kind, other, done, event))

    def test_by_itself(self):
        for relation, kind, other in (
            ("feeds", "set", "sum"), ("used", "show", "set"), ("same", "get", "get"),
            ("cells", "put", "get"), ("memory", "get", "put"), ("shows", "show", "show"),
            ("jump", "if", "put"), ("any", "sum", "if"),
        ):
            for done in EVENTS[1:]:
                for event in EVENTS:
                    entry = (relation, kind, other, done, event)
                    self.assert_forced(entry, entry)
                    self.assert_not_forced(entry)

    def test_by_the_same_relation(self):
        for relation, kind, other in (
            ("feeds", "set", "sum"), ("used", "show", "set"), ("same", "get", "get"),
            ("memory", "get", "put"), ("shows", "show", "show"), ("jump", "if", "put"),
            ("any", "sum", "if"), ("cells", "put", "get"),
        ):
            self.check_order_of_events(relation, relation, kind, other)

    def test_by_a_relation_that_holds_for_all(self):
        for relation in RELATIONS:
            for by, kind, other in (
                ("any", "set", "set"), ("any", "set", "sum"), ("any", "show", "show"),
                ("jump", "if", "set"), ("jump", "if", "get"), ("jump", "if", "if"),
                ("memory", "put", "get"), ("memory", "get", "put"), ("memory", "put", "put"),
                ("shows", "show", "show"),
            ):
                if may_hold((relation, kind, other, "out", "lay")):
                    self.check_order_of_events(relation, by, kind, other)

    def check_order_of_events(self, relation, by, kind, other):
        """Forced if the table's p is not ahead of p, and its q not behind q."""
        for done, event, table_done, table_event in (
            (a, b, c, d) for a in range(1, 5) for b in range(5)
            for c in range(1, 5) for d in range(5)
        ):
            entry = (relation, kind, other, EVENTS[done], EVENTS[event])
            told = (by, kind, other, EVENTS[table_done], EVENTS[table_event])
            forced = table_done >= done and table_event <= event
            if by == "cells" and done == 1:
                forced = table_event <= event
            self.assertIs(is_forced(design_of(told), entry), forced, (entry, told))

    def test_by_cells_if_the_later_one_has_not_read(self):
        for relation in ("memory", "any", "feeds", "used", "same", "jump", "shows"):
            for kind, other in AT_CELLS:
                for done, event in (("out", "lay"), ("write", "read"), ("make", "write")):
                    entry = (relation, kind, other, done, event)
                    if not may_hold(entry):
                        continue
                    for table_event in EVENTS:
                        ahead = EVENTS.index(table_event) <= EVENTS.index(event)
                        told = ("cells", kind, other, "out", table_event)
                        with self.subTest(entry=entry, told=told):
                            self.assertIs(
                                is_forced(design_of(told), entry),
                                ahead and table_event in ("lay", "read"),
                            )
                    self.assertIs(
                        is_forced(design_of(("cells", kind, other, "read", "lay")), entry), False
                    )

    def test_by_cells_if_the_earlier_one_must_have_read(self):
        for relation in ("memory", "any", "feeds", "used", "cells"):
            for kind, other in AT_CELLS:
                for event in EVENTS:
                    entry = (relation, kind, other, "read", event)
                    if not may_hold(entry):
                        continue
                    for table_done in EVENTS[1:]:
                        for table_event in EVENTS:
                            told = ("cells", kind, other, table_done, table_event)
                            self.assertIs(
                                is_forced(design_of(told), entry),
                                EVENTS.index(table_event) <= EVENTS.index(event), (entry, told),
                            )

    def test_not_by_cells_for_other_kinds(self):
        for kind, other in (("get", "get"), ("set", "put"), ("put", "show")):
            told = ("cells", kind, other, "out", "lay")
            for done in ("read", "out"):
                self.assert_not_forced(("any", kind, other, done, "out"), told)

    def test_not_by_a_relation_that_does_not_hold_for_all(self):
        for by in ("feeds", "used", "same"):
            told = (by, "sum", "sum", "out", "lay")
            for relation in ("feeds", "used", "same", "any"):
                entry = (relation, "sum", "sum", "read", "out")
                self.assertIs(is_forced(design_of(told), entry), relation == by)
        self.assert_not_forced(
            ("any", "if", "set", "read", "out"), ("used", "if", "set", "out", "lay")
        )
        self.assert_not_forced(
            ("cells", "put", "get", "make", "out"), ("feeds", "put", "get", "out", "lay")
        )

    def test_not_by_a_relation_that_never_holds_for_these_kinds(self):
        for told in (
            ("jump", "set", "sum", "out", "lay"), ("shows", "set", "sum", "out", "lay"),
            ("memory", "set", "sum", "out", "lay"), ("cells", "set", "sum", "out", "lay"),
        ):
            self.assert_not_forced(("any", "set", "sum", "read", "out"), told)

    def test_not_by_other_kinds(self):
        for kind in KINDS:
            for other in KINDS:
                told = ("any", kind, other, "out", "lay")
                self.assertIs(
                    is_forced(design_of(told), ("any", "set", "sum", "read", "out")),
                    (kind, other) == ("set", "sum"),
                )

    def test_not_by_two_together(self):
        entry = ("any", "set", "sum", "out", "read")
        self.assert_not_forced(
            entry, ("any", "set", "sum", "out", "make"), ("any", "set", "sum", "write", "lay"),
        )
        self.assert_forced(
            entry, ("any", "set", "sum", "out", "make"), ("any", "set", "sum", "out", "lay"),
        )


class Missing(unittest.TestCase):
    def test_those_that_are_not_forced(self):
        table = (
            ("any", "set", "sum", "out", "lay"), ("cells", "put", "get", "write", "read"),
            ("feeds", "get", "show", "make", "read"), ("jump", "if", "put", "make", "read"),
        )
        for design in all_designs(table):
            told = missing(design)
            with self.subTest(design=design):
                self.assertIs(type(told), tuple)
                self.assertEqual(
                    told, tuple(need for need in needs(design) if not is_forced(design, need))
                )
                self.assertIs(is_right(design), told == ())

    def test_width_1_misses_nothing(self):
        for design in all_designs():
            if design[0] == 1:
                self.assertEqual(missing(design), ())
                self.assertIs(is_right(design), True)

    def test_without_a_table_all_are_missing(self):
        self.assertEqual(missing(DESIGN), needs(DESIGN))
        self.assertEqual(missing(design_of()), needs(design_of()))
        self.assertIs(is_right(DESIGN), False)

    def test_order_gives_what_is_told_of_out(self):
        design = design_of(inorder=True, homes=("write", "out", "out"))
        self.assertEqual(
            set(needs(design)) - set(missing(design)),
            {need for need in needs(design) if need[4] == "out"},
        )
        self.assertEqual(len(needs(design)) - len(missing(design)), 5)

    def test_a_right_table_of_few_words(self):
        table = tuple(sorted(
            ("any", kind, other, "out", "lay") for kind in KINDS for other in KINDS
        ))
        for design in all_designs(table):
            self.assertIs(is_right(design), True)
        # Nothing is lost by those that no need asks for.
        fewer = tuple(entry for entry in table if entry[1:3] not in (
            ("put", "show"), ("show", "put"), ("put", "if"), ("show", "if"), ("if", "if"),
        ))
        self.assertEqual(len(fewer), 31)
        self.assertIs(is_right(design_of(*fewer)), True)
        for entry in fewer:
            less = tuple(other for other in fewer if other != entry)
            self.assertIs(is_right(design_of(*less)), False)


class LeastTable(unittest.TestCase):
    def test_by_its_words(self):
        for design in all_designs((("any", "set", "set", "out", "lay"),)):
            if design[0] in (2, 4):
                continue
            bare = design[:4] + ((),)
            lacking = missing(bare)
            least = tuple(
                need for need in lacking
                if not any(
                    is_forced(with_table(bare, (other,)), need)
                    for other in lacking if other != need
                )
            )
            with self.subTest(design=design):
                told = least_table(design)
                self.assertIs(type(told), tuple)
                self.assertEqual(told, least)
                self.assertIs(is_right(with_table(design, told)), True)

    def test_each_of_its_entries_is_needed(self):
        for design in all_designs():
            if design[0] != 3:
                continue
            least = least_table(design)
            for need in least:
                less = tuple(other for other in least if other != need)
                self.assertIn(need, missing(with_table(design, less)))

    def test_numbers(self):
        for homes in ALL_HOMES:
            for hands in (True, False):
                self.assertEqual(least_table(design_of(width=1, hands=hands, homes=homes)), ())
                left_out = {
                    ("used", "if", kind, "read", homes[0]) for kind in WRITING
                } | {("used", "put", "get", "read", homes[0])}
                design = design_of(hands=hands, homes=homes)
                self.assertEqual(set(needs(design)) - set(least_table(design)), left_out)

    def test_in_order(self):
        design = design_of(inorder=True, homes=("out", "out", "out"))
        self.assertEqual(
            least_table(design),
            tuple(need for need in needs(design) if need[4] in ("read", "make")),
        )
        self.assertEqual(len(least_table(design)), 16)
        design = design_of(inorder=True, homes=("write", "out", "write"))
        self.assertEqual(len(least_table(design)), 44 - 3)

    def test_the_table_of_the_design_is_of_no_account(self):
        table = (("any", "set", "sum", "out", "lay"), ("jump", "if", "set", "out", "lay"))
        self.assertEqual(least_table(with_table(DESIGN, table)), least_table(DESIGN))


class Shows(unittest.TestCase):
    PROGRAM = (("set", 1, 5), ("sum", 2, 1, 1, 0))

    def shows(self, program, row, design=DESIGN, state=STATE, guesser=NEXT):
        told = shows(design, program, state, guesser, row_of(row))
        self.assertIs(type(told), bool)
        return told

    def test_states_that_are_not_the_same(self):
        self.assertTrue(self.shows(self.PROGRAM, f"lay lay {whole(1)} {whole(0)}"))
        self.assertFalse(self.shows(self.PROGRAM, f"lay lay {whole(0)} {whole(1)}"))
        self.assertTrue(self.shows(
            (("show", 1), ("show", 2)), f"lay lay {whole(1)} {whole(0)}", state=state_of((0, 1))
        ))
        self.assertFalse(self.shows(
            (("show", 1), ("show", 2)), f"lay lay {whole(1)} {whole(0)}", state=state_of((0, 1, 1))
        ))
        self.assertTrue(self.shows(
            (("put", 1, 0, 0), ("put", 2, 0, 0)), f"lay lay {whole(1)} {whole(0)}",
            state=state_of((0, 1)),
        ))

    def test_a_run_that_has_not_ended(self):
        row = f"lay lay {whole(1)} {whole(0)}".split()
        for many in range(len(row)):
            self.assertFalse(self.shows(self.PROGRAM, " ".join(row[:many])))
        self.assertFalse(self.shows(self.PROGRAM, f"lay {whole(0)}"))

    def test_numbers_of_instructions_that_are_not_the_same(self):
        # Register 0 is emptied by the set, but the if has read it ahead of that.
        program = (("set", 0, 0), ("if", 0, 3), ("set", 1, 0))
        state = state_of((1,))
        row = f"lay lay r1 {whole(0)} m1 lay w1 o1 {whole(2)}"
        told = stand(DESIGN, program, state, NEXT, row_of(row))
        self.assertEqual((told[0], told[2]), (ended(program, state)[0], 3))
        self.assertEqual(ended(program, state)[1], 2)
        self.assertTrue(self.shows(program, row, state=state))

    def test_what_was_thrown_away_but_had_its_effect(self):
        program = (("if", 0, 2), ("show", 1))
        row = f"lay lay {whole(1)} {whole(0)}"
        self.assertEqual(stand(design_of(), program, STATE, NEXT, row_of(row))[2], 1)
        self.assertTrue(self.shows(program, row))
        self.assertFalse(self.shows(program, f"lay {whole(0)}", guesser=GOAL))

    def test_a_program_that_does_not_end_plainly(self):
        # Plainly the if jumps to itself for ever, but it has read another word here.
        program = (("set", 0, 0), ("if", 0, 1))
        row = f"lay lay r1 {whole(0)} m1 w1 o1"
        state = state_of((1,))
        with self.assertRaises(TooLong):
            ended(program, state)
        self.assertTrue(has_ended(DESIGN, program, state, NEXT, row_of(row)))
        self.assertFalse(self.shows(program, row, state=state))

    def test_an_empty_program(self):
        self.assertFalse(self.shows((), ""))

    def test_the_plain_program_ends_behind_at_most_500_instructions(self):
        # Here the first if has read register 2 ahead of the set, and so the second one is next,
        # which ends it all; plainly, it goes into a loop of 495 instructions.
        for many, told in ((499, True), (500, True), (501, False)):
            end = 7 + many - 497
            program = (
                ("set", 2, 0), ("if", 2, 3), ("if", 0, end),
                ("set", 1, 256 - 165), ("sum", 1, 1, 7, 1), ("if", 1, 7), ("if", 7, 4),
            ) + (("show", 0),) * (end - 7)
            state = state_of((0, 0, 1))
            with self.subTest(many=many):
                self.assertEqual(ran(program, state, 500)[2], min(many, 500))
                row = f"lay lay r1 m1 {whole(0)} w1 o1 lay {whole(2)}"
                self.assertIs(self.shows(program, row, state=state), told)


class RightDesigns(unittest.TestCase):
    """Right designs lead to the plain machine's state, against every hand."""

    def test_random_runs(self):
        source = random.Random(26)
        many = 0
        designs = list(all_designs())
        while many < 1500:
            design = source.choice(designs)
            extra = {self.entry(source) for _ in range(source.choice((0, 0, 3, 20)))}
            table = tuple(sorted(extra | set(least_table(design))))
            many += self.try_runs(with_table(design, table), source)

    def entry(self, source):
        return (
            source.choice(RELATIONS), source.choice(KINDS), source.choice(KINDS),
            source.choice(EVENTS[1:]), source.choice(EVENTS),
        )

    def try_runs(self, design, source):
        self.assertIs(is_right(design), True)
        tried = 0
        for _ in range(10):
            program, state, guesser, numbers = random_case(source)
            try:
                plain = ended(program, state)
                last, done, row = run(design, program, state, guesser, numbers)
            except TooLong:
                continue
            self.assertEqual((last, done), plain, (design, program, state, guesser, numbers))
            self.assertIs(shows(design, program, state, guesser, row), False)
            tried += 1
        return tried


if __name__ == "__main__":
    unittest.main()
