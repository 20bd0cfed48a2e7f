"""Points 5 to 7: events, entries and designs."""

import copy
import unittest

from tests.samples import (
    ALL_HOMES, DESIGN, EARLIER_ENTRY, ENTRY, EVENTS, KINDS, NO_DESIGNS, NO_ENTRIES, NO_TABLES,
    NO_WORDS, RELATIONS, WRITING,
)
from windowbelt.designs import event_number, home_of, is_design, is_entry, may_hold, with_table
from windowbelt.errors import BadDesign, BadEntry, BadEvent, BadKind, BadTable

PAIRS = tuple((kind, other) for kind in KINDS for other in KINDS)
AT_CELLS = (("put", "get"), ("get", "put"), ("put", "put"))


class Examples(unittest.TestCase):
    def test_answers(self):
        self.assertEqual(
            [
                event_number("make"), is_entry(ENTRY),
                may_hold(("cells", "get", "get", "out", "out")), is_design(DESIGN),
                home_of(DESIGN, "show"), with_table(DESIGN, (ENTRY,))[4],
            ],
            [2, True, False, True, "out", (("any", "set", "sum", "out", "lay"),)],
        )

    def test_error(self):
        with self.assertRaises(BadTable):
            with_table(DESIGN, None)


class Events(unittest.TestCase):
    def test_numbers(self):
        self.assertEqual([event_number(event) for event in EVENTS], [0, 1, 2, 3, 4])

    def test_no_events(self):
        for value in NO_WORDS + ("set", "next", ("read", 0)):
            with self.subTest(value=value):
                with self.assertRaises(BadEvent):
                    event_number(value)


class Entries(unittest.TestCase):
    def test_all_entries(self):
        for relation in RELATIONS:
            for kind, other in PAIRS:
                for done in EVENTS:
                    for event in EVENTS:
                        entry = (relation, kind, other, done, event)
                        self.assertIs(is_entry(entry), done != "lay", entry)

    def test_no_entries(self):
        for value in NO_ENTRIES:
            with self.subTest(value=value):
                self.assertIs(is_entry(value), False)
                with self.assertRaises(BadEntry):
                    may_hold(value)

    def test_words_of_another_place(self):
        for value in (
            ("set", "set", "sum", "out", "lay"), ("any", "any", "sum", "out", "lay"),
            ("any", "set", "any", "out", "lay"), ("any", "set", "sum", "any", "lay"),
            ("any", "set", "sum", "out", "set"), ("sets", "set", "sum", "out", "lay"),
        ):
            self.assertIs(is_entry(value), False)


class MayHold(unittest.TestCase):
    def assert_may_hold(self, relation, can):
        for kind, other in PAIRS:
            for done, event in (("out", "lay"), ("read", "out"), ("make", "read")):
                with self.subTest(relation, kind=kind, other=other):
                    told = may_hold((relation, kind, other, done, event))
                    self.assertIs(told, can(kind, other))

    def test_feeds(self):
        self.assert_may_hold("feeds", lambda one, other: one in WRITING and other != "set")

    def test_used(self):
        self.assert_may_hold("used", lambda one, other: one != "set" and other in WRITING)

    def test_same(self):
        self.assert_may_hold("same", lambda one, other: one in WRITING and other in WRITING)

    def test_cells_and_memory(self):
        self.assert_may_hold("cells", lambda one, other: (one, other) in AT_CELLS)
        self.assert_may_hold("memory", lambda one, other: (one, other) in AT_CELLS)

    def test_shows(self):
        self.assert_may_hold("shows", lambda one, other: one == other == "show")

    def test_jump(self):
        self.assert_may_hold("jump", lambda one, other: one == "if")

    def test_any(self):
        self.assert_may_hold("any", lambda one, other: True)


class Designs(unittest.TestCase):
    def test_sound_ones(self):
        for width in (1, 2, 3, 4):
            for inorder in (True, False):
                for hands in (True, False):
                    for homes in ALL_HOMES:
                        for table in ((), (ENTRY,), (EARLIER_ENTRY, ENTRY)):
                            design = (width, inorder, hands, homes, table)
                            self.assertIs(is_design(design), True, design)

    def test_a_table_of_all_entries(self):
        table = tuple(sorted(
            (relation, kind, other, done, event) for relation in RELATIONS for kind, other in PAIRS
            for done in EVENTS[1:] for event in EVENTS
        ))
        self.assertEqual(len(table), 5760)
        self.assertIs(is_design(DESIGN[:4] + (table,)), True)
        self.assertIs(is_design(DESIGN[:4] + (table[::-1],)), False)

    def test_entries_that_can_never_hold_may_stand_in_a_table(self):
        table = (("cells", "get", "get", "out", "out"), ("shows", "set", "if", "read", "lay"))
        self.assertIs(is_design(DESIGN[:4] + (table,)), True)

    def test_no_designs(self):
        for value in NO_DESIGNS:
            with self.subTest(value=value):
                self.assertIs(is_design(value), False)
                with self.assertRaises(BadDesign):
                    home_of(value, "set")
                with self.assertRaises(BadDesign):
                    with_table(value, ())


class Homes(unittest.TestCase):
    def test_every_kind(self):
        for homes in ALL_HOMES:
            design = DESIGN[:3] + (homes, ())
            with self.subTest(homes=homes):
                self.assertEqual(
                    [home_of(design, kind) for kind in KINDS],
                    [homes[0], homes[0], homes[0], homes[1], None, homes[2]],
                )

    def test_no_kinds(self):
        for value in NO_WORDS + ("out", "any", "SET", ("set", 0, 1)):
            with self.subTest(value=value):
                with self.assertRaises(BadKind):
                    home_of(DESIGN, value)

    def test_the_design_stands_first(self):
        with self.assertRaises(BadDesign):
            home_of(None, None)


class WithTable(unittest.TestCase):
    def test_another_table(self):
        for inorder in (True, False):
            design = (3, inorder, False, ("out", "write", "out"), (EARLIER_ENTRY,))
            for table in ((), (ENTRY,), (EARLIER_ENTRY, ENTRY), (EARLIER_ENTRY,)):
                told = with_table(design, table)
                self.assertEqual(told, (3, inorder, False, ("out", "write", "out"), table))
                self.assertIs(type(told), tuple)
                self.assertEqual(design[4], (EARLIER_ENTRY,))

    def test_no_tables(self):
        for value in NO_TABLES:
            with self.subTest(value=value):
                with self.assertRaises(BadTable):
                    with_table(DESIGN, value)

    def test_the_design_stands_first(self):
        with self.assertRaises(BadDesign):
            with_table(DESIGN[:4], None)

    def test_arguments_stay_as_they_are(self):
        for value in ([ENTRY], [list(ENTRY)], {0: ENTRY}):
            kept = copy.deepcopy(value)
            with self.assertRaises(BadTable):
                with_table(DESIGN, value)
            with self.assertRaises(BadDesign):
                with_table(value, value)
            self.assertIs(is_entry(value), False)
            self.assertIs(is_design(value), False)
            self.assertEqual(value, kept)


if __name__ == "__main__":
    unittest.main()
