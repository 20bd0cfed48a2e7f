"""Point 23: rows that one right design lets by and another one does not."""

import itertools
import random
import unittest

from tests.samples import (
    APART, EVENTS, KINDS, NEXT, RELATIONS, TOLD, WRITING, design_of, row_of, whole,
)
from windowbelt.designs import may_hold, with_table
from windowbelt.errors import BadRow
from windowbelt.frees import barred_row, effective_width, freest, lets_by_all
from windowbelt.rights import is_forced, is_right
from windowbelt.windows import events_behind

PAIRS = tuple(itertools.product(sorted(KINDS), repeat=2))
MAKERS = {"set": ("set", 0, 5), "sum": ("sum", 0, 4, 4, 1), "get": ("get", 0, 4, 0)}
ELDERS = {"set": ("set", 0, 9), "sum": ("sum", 0, 2, 2, 0), "get": ("get", 0, 2, 0)}
USERS = {
    "sum": ("sum", 1, 0, 0, 0), "get": ("get", 1, 0, 0), "put": ("put", 2, 0, 0),
    "if": ("if", 0, 0), "show": ("show", 0),
}
AT_CELL = {
    ("put", "get"): (("put", 2, 4, 0), ("get", 1, 4, 0)),
    ("get", "put"): (("get", 1, 4, 0), ("put", 2, 4, 0)),
    ("put", "put"): (("put", 2, 4, 0), ("put", 3, 4, 0)),
}
FREE = freest(design_of(width=2))


def program_for(relation, kind, other):
    """The two instructions for an entry."""
    return {
        "feeds": lambda: (MAKERS[kind], USERS[other]),
        "used": lambda: (USERS[kind], MAKERS[other]),
        "same": lambda: (ELDERS[kind], MAKERS[other]),
        "cells": lambda: AT_CELL[kind, other],
    }.get(relation, lambda: (APART[kind][0], APART[other][1]))()


def with_more(design, *entries):
    """A design with these entries besides those of its table."""
    return with_table(design, tuple(sorted(set(design[4]) | set(entries))))


def pressing(design, program, event):
    """The row of the pressing hand up to an event of the second one, by the words of point 19."""
    last = ("lay",) if event == "lay" else (event, 1)
    row = ()
    while not (row[-1:] == (last,) and row.count(("lay",)) == 2):
        events = events_behind(design, program, TOLD, NEXT, row)
        laying = [e for e in events if e == ("lay",) and row.count(e) < 2]
        second = [e for e in events if e[1:] == (1,)]
        first = [e for e in events if e[1:] == (0,)]
        row += ((laying + second + first)[0],)
    return row


class Barring(unittest.TestCase):
    def barred(self, one, other):
        """What barred_row tells, held against both designs."""
        told = barred_row(one, other)
        self.assertIs(told is None, lets_by_all(one, other))
        if told is not None:
            self.assertEqual([type(part) for part in told], [tuple] * 4)
            events_behind(other, *told)
            with self.assertRaises(BadRow, msg=(one, other, told)):
                events_behind(one, *told)
        return told


class NoRow(Barring):
    def test_none(self):
        for width in (1, 2, 3, 4):
            design = freest(design_of(width=width))
            self.assertIsNone(self.barred(design, design))
            self.assertIsNone(self.barred(design, (1,) + design[1:]))
        self.assertIsNone(self.barred(FREE, with_more(FREE, ("any", "set", "set", "out", "lay"))))
        self.assertIsNone(self.barred(FREE, (2, True) + FREE[2:]))


class Widths(Barring):
    """Case 1: a smaller effective width."""

    def test_without_more_in_the_table(self):
        for one, other in itertools.combinations((1, 2, 3, 4), 2):
            told = self.barred((one,) + FREE[1:], (other,) + FREE[1:])
            program = tuple(("get", place, 4, place) for place in range(one + 1))
            self.assertEqual(told, (program, TOLD, NEXT, (("lay",),) * (one + 1)))

    def test_it_stands_ahead_of_entries_and_order(self):
        one = with_more((1, True) + FREE[2:], ("any", "set", "set", "out", "lay"))
        told = self.barred(one, FREE)
        self.assertEqual((told[0][0][0], told[3]), ("get", (("lay",),) * 2))

    def test_an_effective_width_that_is_less_than_the_width(self):
        narrow = with_more(
            (4,) + FREE[1:],
            *[("any",) + pair + ("out", "lay") for pair in PAIRS if pair != ("sum", "show")]
        )
        self.assertEqual(effective_width(narrow), 2)
        told = self.barred(narrow, (4,) + FREE[1:])
        self.assertEqual(told[0], tuple(("get", place, 4, place) for place in range(3)))
        # The other way: the least open row of two kinds, which is the only one.
        told = self.barred((1,) + FREE[1:], narrow)
        self.assertEqual(
            told, ((("sum", 0, 4, 4, 1), ("show", 4)), TOLD, NEXT, (("lay",), ("lay",)))
        )

    def test_the_least_open_row(self):
        # Two gets, and a get with an if, are kept apart; then comes a get with a put.
        other = with_more(
            FREE, ("any", "get", "get", "out", "lay"), ("jump", "if", "if", "out", "lay"),
            ("any", "get", "if", "out", "lay"),
        )
        told = self.barred((1,) + FREE[1:], other)
        self.assertEqual(told[0], (("get", 0, 4, 0), ("put", 4, 4, 1)))
        other = with_more(other, *[("any", "get", kind, "out", "lay") for kind in KINDS])
        told = self.barred((1,) + FREE[1:], other)
        self.assertEqual(told[0], (("if", 4, 0), ("get", 1, 4, 1)))
        # Of three kinds: what is laid third has to be open behind both others.
        other = with_more(
            (3,) + FREE[1:],
            *[("any", "get", kind, "out", "lay") for kind in KINDS if kind not in ("if", "set")],
            ("any", "if", "get", "out", "lay"), ("any", "if", "if", "out", "lay"),
            ("any", "if", "put", "out", "lay"), ("any", "set", "set", "out", "lay"),
        )
        told = self.barred(FREE, other)
        self.assertEqual(told[0], (("get", 0, 4, 0), ("if", 4, 0), ("set", 2, 5)))

    def test_events_ahead_of_lay(self):
        design = (4,) + FREE[1:]
        other = with_more(design, *[("any",) + pair + ("make", "lay") for pair in PAIRS])
        told = self.barred((2,) + FREE[1:], other)
        self.assertEqual(told[3], row_of("lay r0 m0 lay w0 r1 m1 lay"))
        # The first event that can come is that of the least place, whether it helps or not.
        other = with_more(
            design, *[("any",) + pair + ("read", "lay") for pair in PAIRS if pair[0] == "get"],
            ("any", "get", "get", "write", "read"),
        )
        told = self.barred((2,) + FREE[1:], other)
        self.assertEqual(told[3], row_of("lay r0 lay m0 w0 r1 lay"))
        self.assertEqual(told[0], (("get", 0, 4, 0), ("get", 1, 4, 1), ("get", 2, 4, 2)))

    def test_out_never_comes(self):
        # The second one could be laid behind "out" of the first one: the row is not open.
        other = with_more(
            FREE, ("any", "get", "get", "out", "lay"), ("any", "get", "if", "write", "lay"),
        )
        told = self.barred((1,) + FREE[1:], other)
        self.assertEqual(told[0], (("get", 0, 4, 0), ("if", 4, 0)))
        self.assertEqual(told[3], row_of("lay r0 m0 w0 lay"))


class Entries(Barring):
    """Case 2: an entry of the table of one that is not forced in the other."""

    def assert_barred(self, other, entry):
        """With this entry, one design bars what it tells and the other one does not."""
        one = with_more(other, entry)
        told = self.barred(one, other)
        if is_forced(other, entry):
            self.assertIsNone(told)
            return False
        self.assertEqual(told[:3], (program_for(*entry[:3]), TOLD, NEXT))
        self.assertEqual(told[3], pressing(other, told[0], entry[4]))
        last = ("lay",) if entry[4] == "lay" else (entry[4], 1)
        self.assertEqual(told[3][-1], last)
        self.assertNotIn((entry[3], 0), told[3])
        return True

    def test_each_relation_and_pair(self):
        source = random.Random(23)
        many = 0
        for relation, pair in itertools.product(RELATIONS, PAIRS):
            if may_hold((relation,) + pair + ("out", "lay")):
                events = (("out", "lay"), (source.choice(EVENTS[1:]), source.choice(EVENTS)))
                for done, event in events:
                    many += self.assert_barred(FREE, (relation,) + pair + (done, event))
        self.assertGreater(many, 90)

    def test_each_event(self):
        for entry in (
            ("feeds", "set", "sum"), ("used", "get", "sum"), ("same", "get", "get"),
            ("cells", "put", "put"), ("memory", "get", "put"), ("shows", "show", "show"),
            ("jump", "if", "set"), ("any", "set", "show"),
        ):
            for done, event in itertools.product(EVENTS[1:], EVENTS):
                self.assert_barred(FREE, entry + (done, event))

    def test_other_designs(self):
        for choices in (
            {"hands": False}, {"homes": ("write",) * 3}, {"inorder": True}, {"width": 4},
            {"homes": ("write", "out", "write"), "hands": False, "width": 3},
        ):
            other = freest(design_of(**{"width": 2, **choices}))
            for relation, pair in itertools.product(RELATIONS, PAIRS[::3]):
                if may_hold((relation,) + pair + ("out", "lay")):
                    self.assert_barred(other, (relation,) + pair + ("write", "read"))
                    self.assert_barred(other, (relation,) + pair + ("out", "out"))

    def test_an_if_as_user(self):
        for kind in WRITING:
            told = self.barred(with_more(FREE, ("feeds", kind, "if", "out", "read")), FREE)
            self.assertEqual(told, (
                (MAKERS[kind], ("if", 0, 0)), TOLD, NEXT, row_of("lay lay r0 m0 r1"),
            ))
            told = self.barred(with_more(FREE, ("used", "if", kind, "write", "make")), FREE)
            self.assertEqual(told, (
                (("if", 0, 0), MAKERS[kind]), TOLD, NEXT, row_of("lay lay r1 m1"),
            ))
            told = self.barred(with_more(FREE, ("used", "if", kind, "write", "out")), FREE)
            self.assertEqual(told, (
                (("if", 0, 0), MAKERS[kind]), TOLD, NEXT, row_of("lay lay r1 m1 w1 r0 m0 o1"),
            ))

    def test_some_as_they_are(self):
        for entry, program, row in (
            (("same", "sum", "get", "read", "lay"),
             (("sum", 0, 2, 2, 0), ("get", 0, 4, 0)), "lay lay"),
            (("cells", "put", "put", "read", "make"),
             (("put", 2, 4, 0), ("put", 3, 4, 0)), "lay lay r1 m1"),
            (("cells", "put", "get", "out", "read"),
             (("put", 2, 4, 0), ("get", 1, 4, 0)), "lay lay r1"),
            (("memory", "put", "get", "out", "make"),
             (("put", 4, 4, 0), ("get", 1, 4, 1)), "lay lay r1 r0 m1"),
            (("shows", "show", "show", "write", "write"),
             (("show", 4), ("show", 4)), "lay lay r1 m1 w1"),
            (("jump", "if", "if", "read", "out"),
             (("if", 4, 0), ("if", 4, 0)), f"lay lay {whole(1)}"),
            (("any", "set", "sum", "out", "out"),
             (("set", 0, 5), ("sum", 1, 4, 4, 1)), f"lay lay {whole(1)}"),
        ):
            told = self.barred(with_more(FREE, entry), FREE)
            self.assertEqual(told, (program, TOLD, NEXT, row_of(row)), entry)

    def test_the_least_entry_of_several(self):
        source = random.Random(24)
        for _ in range(60):
            entries = [
                (source.choice(RELATIONS),) + source.choice(PAIRS)
                + (source.choice(EVENTS[1:]), source.choice(EVENTS)) for _ in range(4)
            ]
            left = sorted(entry for entry in entries if not is_forced(FREE, entry))
            one = with_more((4,) + FREE[1:], *entries)
            told = self.barred(one, FREE) if effective_width(one) > 1 else None
            if told is not None:
                row = pressing(FREE, program_for(*left[0][:3]), left[0][4])
                self.assertEqual(told, (program_for(*left[0][:3]), TOLD, NEXT, row))

    def test_entries_that_never_hold_are_passed_over(self):
        entries = (("any", "set", "set", "out", "lay"), ("used", "set", "set", "out", "lay"))
        told = self.barred(with_more(FREE, entries[1]), FREE)
        self.assertIsNone(told)
        told = self.barred(with_more(FREE, *entries), FREE)
        self.assertEqual(told[0], (("set", 0, 5), ("set", 1, 5)))


class Orders(Barring):
    """Case 3: one is in order, the other one is not."""

    ALL = tuple(("any",) + pair + ("out", "out") for pair in PAIRS)

    def test_the_least_pair(self):
        told = self.barred((2, True) + FREE[2:], FREE)
        program = (("get", 0, 4, 0), ("get", 1, 4, 1))
        self.assertEqual(told, (program, TOLD, NEXT, row_of(f"lay lay {whole(1)}")))

    def test_each_pair(self):
        full = with_more(FREE, *self.ALL)
        self.assertIsNone(self.barred((2, True) + full[2:], full))
        for entry in self.ALL:
            other = with_table(full, tuple(one for one in full[4] if one != entry))
            told = self.barred((2, True) + FREE[2:], other)
            if entry[1:3] == ("show", "show"):
                self.assertIsNone(told)
            else:
                program = (APART[entry[1]][0], APART[entry[2]][1])
                row = pressing(other, program, "out")
                self.assertEqual(told, (program, TOLD, NEXT, row))

    def test_two_ifs_as_well(self):
        entries = [entry for entry in self.ALL if entry[1:3] != ("if", "if")]
        other = with_more(FREE, ("any", "if", "if", "make", "out"), *entries)
        told = self.barred((2, True) + FREE[2:], other)
        self.assertEqual(told[0], (("if", 4, 0), ("if", 4, 0)))
        self.assertEqual(told[3], row_of("lay lay r1 m1 w1 r0 m0 o1"))

    def test_entries_stand_ahead_of_it(self):
        one = with_more((2, True) + FREE[2:], ("used", "sum", "sum", "out", "lay"))
        told = self.barred(one, FREE)
        self.assertEqual(told, (
            (("sum", 1, 0, 0, 0), ("sum", 0, 4, 4, 1)), TOLD, NEXT, row_of("lay lay"),
        ))
        one = with_more((2, True) + FREE[2:], ("any", "sum", "sum", "out", "out"))
        self.assertEqual(self.barred(one, FREE)[0], (("sum", 0, 4, 4, 1), ("sum", 1, 4, 4, 1)))


class RandomPairs(Barring):
    def test_two_designs(self):
        source = random.Random(28)
        rows = 0
        for _ in range(150):
            two = []
            for _ in range(2):
                design = design_of(width=source.choice((1, 2, 3, 4)), inorder=source.random() < 0.3)
                more = [
                    (source.choice(RELATIONS),) + source.choice(PAIRS)
                    + (source.choice(EVENTS[1:]), source.choice(EVENTS))
                    for _ in range(source.choice((0, 1, 5)))
                ]
                if source.random() < 0.3:
                    more += [("any",) + pair + ("out", "lay") for pair in source.sample(PAIRS, 30)]
                two.append(with_more(freest(design), *more))
                self.assertIs(is_right(two[-1]), True)
            rows += self.barred(*two) is not None
        self.assertGreater(rows, 50)


if __name__ == "__main__":
    unittest.main()
