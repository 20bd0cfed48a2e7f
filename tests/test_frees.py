"""Points 22 and 24: effective widths, designs that let by all, freest ones, rows and rounds."""

import functools
import itertools
import random
import unittest

from tests.samples import (
    ALL_HOMES, APART, DESIGN, EVENTS, GOAL, KINDS, NEXT, NO_TUPLES, RELATIONS, STATE, TOLD,
    design_of, random_case, random_program, state_of,
)
from windowbelt.designs import may_hold, with_table
from windowbelt.errors import BadBlock, BadDesign, BadState, NotMade, TooLong
from windowbelt.frees import (
    barred_row, count_rows, effective_width, freest, lets_by_all, rounds_of,
)
from windowbelt.rights import is_forced, is_right, least_table
from windowbelt.windows import events_behind, has_ended, run

PAIRS = tuple(itertools.product(sorted(KINDS), repeat=2))


def only_pairs(*pairs):
    """Entries by which the later one of all other kinds is laid behind the out of the other."""
    return tuple(("any",) + pair + ("out", "lay") for pair in PAIRS if pair not in pairs)


def is_open(design, kinds):
    """Whether a row of kinds is open, the last of the events that are not "out" coming first."""
    program = tuple(APART[kind][place] for place, kind in enumerate(kinds))
    wide = (4,) + design[1:]
    row = ()
    while row.count(("lay",)) < len(kinds):
        events = [e for e in events_behind(wide, program, TOLD, NEXT, row) if e[0] != "out"]
        if not events:
            return False
        row += (("lay",) if ("lay",) in events else events[-1],)
    return True


def longest_open(design):
    """The number of kinds in the longest open row of a design."""
    rows = [()]
    for many in range(1, 5):
        rows = [
            row + (kind,) for row in rows for kind in KINDS if is_open(design, row + (kind,))
        ]
        if not rows:
            return many - 1
    return 4


class Examples(unittest.TestCase):
    def setUp(self):
        self.design = freest((2, False, True, ("out", "out", "out"), ()))

    def test_answers(self):
        design = self.design
        self.assertEqual(
            [
                effective_width(design), count_rows(design, (("show", 0), ("show", 0)), STATE),
                rounds_of(design, (("set", 0, 1), ("show", 0)), STATE, NEXT),
                lets_by_all(design, design), barred_row((1,) + design[1:], design)[3],
            ],
            [2, 70, 7, True, (("lay",), ("lay",))],
        )

    def test_error(self):
        with self.assertRaises(NotMade):
            lets_by_all(self.design, self.design[:4] + ((),))


class EffectiveWidth(unittest.TestCase):
    def assert_width(self, longest, *table, **choices):
        """The longest open row has so many kinds, whatever the width is."""
        for width in (1, 2, 3, 4):
            told = effective_width(design_of(*table, width=width, **choices))
            self.assertIs(type(told), int)
            self.assertEqual(told, min(width, longest), (width, table))

    def test_without_a_table(self):
        for inorder in (True, False):
            for hands in (True, False):
                for homes in ALL_HOMES:
                    self.assert_width(4, inorder=inorder, hands=hands, homes=homes)

    def test_right_designs_with_their_least_tables(self):
        for homes in ALL_HOMES:
            self.assert_width(4, *least_table(design_of(homes=homes)), homes=homes)

    def test_open_rows_of_1_to_4_kinds(self):
        self.assert_width(1, *only_pairs())
        self.assert_width(2, *only_pairs(("sum", "if")))
        self.assert_width(2, *only_pairs(("sum", "if"), ("if", "put")))
        self.assert_width(3, *only_pairs(("sum", "if"), ("if", "put"), ("sum", "put")))
        self.assert_width(2, *only_pairs(("sum", "if"), ("if", "put"), ("put", "sum")))
        chain = ("show", "get", "set", "if")
        self.assert_width(4, *only_pairs(*itertools.combinations(chain, 2)))
        for pair in itertools.combinations(chain, 2):
            pairs = [other for other in itertools.combinations(chain, 2) if other != pair]
            self.assert_width(3, *only_pairs(*pairs))
        for kind in KINDS:
            self.assert_width(4, *only_pairs((kind, kind)))

    def test_by_each_relation_and_each_event(self):
        # All pairs but one are kept apart; the relation holds back the one that is left.
        for relation, pair in itertools.product(RELATIONS, PAIRS):
            if not may_hold((relation,) + pair + ("out", "lay")):
                continue
            free = 4 if pair[0] == pair[1] else 2
            always = relation in ("cells", "memory", "shows", "jump", "any")
            for done in EVENTS[1:]:
                longest = 1 if always and done == "out" else free
                entry = (relation,) + pair + (done, "lay")
                if done in ("read", "out"):
                    self.assert_width(longest, *only_pairs(pair), entry)
                else:
                    design = design_of(*only_pairs(pair), entry)
                    self.assertEqual(effective_width(design), longest, entry)

    def test_for_all_kinds_at_once(self):
        for relation in RELATIONS:
            for done in EVENTS[1:]:
                table = [(relation,) + pair + (done, "lay") for pair in PAIRS]
                self.assert_width(1 if relation == "any" and done == "out" else 4, *table)

    def test_cells_that_are_unlike_once_they_are_read(self):
        # The second put is laid; for the third one, the first one must be out.
        pair = ("put", "put")
        self.assert_width(1, *only_pairs(pair), ("cells",) + pair + ("out", "lay"))
        # The second one makes only if the first one is out or goes to another cell.
        table = (("cells",) + pair + ("out", "make"), ("any",) + pair + ("make", "lay"))
        self.assert_width(4, *only_pairs(pair), *table)
        table = (("memory",) + pair + ("out", "make"), ("any",) + pair + ("make", "lay"))
        self.assert_width(2, *only_pairs(pair), *table)

    def test_events_that_wait_for_out(self):
        # The third one is laid behind the make of the second one, and that behind the first's out.
        pairs = (("get", "set"), ("get", "show"), ("set", "show"))
        late = ("any", "set", "show", "make", "lay")
        self.assert_width(3, *only_pairs(*pairs), late)
        for event, longest in (("read", 2), ("make", 2), ("write", 3), ("out", 3)):
            table = (late, ("any", "get", "set", "out", event))
            self.assert_width(longest, *only_pairs(*pairs), *table)
        # In order, nothing but "out" waits.
        self.assert_width(3, *only_pairs(*pairs), late, inorder=True)

    def test_by_its_words(self):
        source = random.Random(22)
        for _ in range(25):
            pairs = source.sample(PAIRS, source.randrange(14))
            table = set(only_pairs(*pairs)) | {
                (source.choice(RELATIONS),) + source.choice(PAIRS)
                + (source.choice(EVENTS[1:]), source.choice(EVENTS))
                for _ in range(source.randrange(60))
            }
            design = design_of(*table, inorder=source.random() < 0.5)
            self.assertEqual(effective_width(design), longest_open(design), design)


class LetsByAll(unittest.TestCase):
    FREE = freest(design_of(width=2))

    def assert_lets(self, one, other, told):
        self.assertIs(lets_by_all(one, other), told)
        self.assertIs(barred_row(one, other) is None, told)

    def more(self, *entries, design=FREE, **choices):
        """A design with these entries besides those of its table."""
        width, inorder, hands, homes, table = design
        table = tuple(sorted(set(table) | set(entries)))
        return (choices.get("width", width), choices.get("inorder", inorder), hands, homes, table)

    def test_itself(self):
        for homes in ALL_HOMES:
            for width in (1, 2, 3, 4):
                design = freest(design_of(width=width, homes=homes))
                self.assert_lets(design, design, True)

    def test_widths(self):
        for one, other in itertools.product((1, 2, 3, 4), repeat=2):
            self.assert_lets(self.more(width=one), self.more(width=other), one >= other)
            told = one >= other and other == 1
            entry = ("any", "set", "show", "read", "out")
            self.assert_lets(self.more(entry, width=one), self.more(width=other), told)

    def test_effective_widths(self):
        narrow = self.more(*only_pairs(("get", "show")), width=4)
        self.assertEqual(effective_width(narrow), 2)
        self.assert_lets(self.more(width=2), narrow, True)
        self.assert_lets(self.more(width=1), narrow, False)
        self.assert_lets(narrow, self.more(width=2), False)
        narrowest = self.more(*only_pairs(), width=4)
        self.assertEqual(effective_width(narrowest), 1)
        self.assert_lets(self.more(width=1), narrowest, True)
        self.assert_lets(narrowest, self.more(width=1), True)

    def test_entries(self):
        for entry in (
            ("any", "set", "set", "out", "lay"), ("same", "set", "set", "out", "read"),
            ("feeds", "set", "show", "out", "read"), ("jump", "if", "if", "read", "out"),
            ("memory", "put", "get", "make", "make"), ("cells", "put", "put", "read", "lay"),
        ):
            self.assertFalse(is_forced(self.FREE, entry))
            self.assert_lets(self.more(entry), self.FREE, False)
            self.assert_lets(self.FREE, self.more(entry), True)
            self.assert_lets(self.more(entry), self.more(entry), True)

    def test_entries_that_other_ones_force(self):
        weak = self.more(("same", "set", "set", "read", "write"))
        strong = self.more(("any", "set", "set", "make", "lay"))
        self.assert_lets(weak, strong, True)
        self.assert_lets(strong, weak, False)

    def test_entries_that_never_hold(self):
        entry = ("same", "set", "show", "out", "lay")
        self.assertFalse(may_hold(entry))
        self.assert_lets(self.more(entry), self.FREE, True)

    def test_order(self):
        ordered = self.more(inorder=True)
        self.assert_lets(self.FREE, ordered, True)
        self.assert_lets(ordered, self.FREE, False)
        self.assert_lets(ordered, ordered, True)
        all_out = self.more(*[("any",) + pair + ("out", "out") for pair in PAIRS])
        self.assert_lets(ordered, all_out, True)
        self.assert_lets(all_out, ordered, True)
        for pair in PAIRS:
            lacking = ("any",) + pair + ("out", "out")
            table = tuple(entry for entry in all_out[4] if entry != lacking)
            told = pair == ("show", "show")
            self.assert_lets(ordered, with_table(all_out, table), told)

    def test_order_of_width_1(self):
        for one, other in itertools.product((True, False), repeat=2):
            one_design = self.more(width=1, inorder=one)
            self.assert_lets(one_design, self.more(width=1, inorder=other), True)

    def test_freest_ones_let_by_whatever_right_ones_do(self):
        source = random.Random(24)
        for _ in range(60):
            design = self.right_design(source)
            self.assert_lets(freest(design), design, True)

    def test_not_made(self):
        right = self.FREE
        wrong = with_table(right, right[4][1:])
        others = [right[:2] + (False, right[3], right[4])]
        others += [freest(right[:3] + (homes, ())) for homes in ALL_HOMES if homes != right[3]]
        for call in (lets_by_all, barred_row):
            for one, other in [(wrong, right), (right, wrong), (wrong, wrong)]:
                with self.assertRaises(NotMade):
                    call(one, other)
            for other in others:
                other = with_table(other, least_table(other))
                self.assertTrue(is_right(other))
                for two in ((right, other), (other, right)):
                    with self.assertRaises(NotMade):
                        call(*two)
                with self.assertRaises(NotMade):
                    call((1,) + right[1:], (1,) + other[1:])

    def test_rows_of_random_runs(self):
        source = random.Random(25)
        tried = 0
        while tried < 150:
            one, other = self.right_design(source), self.right_design(source)
            if not lets_by_all(one, other):
                continue
            program, state, guesser, numbers = random_case(source)
            try:
                row = run(other, program, state, guesser, numbers)[2]
            except TooLong:
                continue
            tried += 1
            self.assertTrue(has_ended(one, program, state, guesser, row))

    def right_design(self, source):
        """A right design with hands, whose homes are all "out"."""
        more = [
            (source.choice(RELATIONS),) + source.choice(PAIRS)
            + (source.choice(EVENTS[1:]), source.choice(EVENTS))
            for _ in range(source.choice((0, 0, 2)))
        ]
        width, inorder = source.choice((1, 2, 3, 4)), source.random() < 0.5
        design = self.more(*more, width=width, inorder=inorder)
        self.assertIs(is_right(design), True)
        return design


class Freest(unittest.TestCase):
    def test_right_and_wrong_designs(self):
        for table in ((), (("any", "set", "sum", "out", "lay"),)):
            for homes in ALL_HOMES:
                for inorder in (True, False):
                    for width in (1, 3):
                        design = design_of(*table, width=width, inorder=inorder, homes=homes)
                        told = freest(design)
                        self.assertEqual(told, design[:4] + (least_table(design),))
                        self.assertIs(is_right(told), True)
                        self.assertEqual(freest(told), told)

    def test_one_as_it_is(self):
        self.assertEqual(freest((1,) + DESIGN[1:]), (1,) + DESIGN[1:])
        self.assertEqual(len(freest(DESIGN)[4]), 44)


class CountRows(unittest.TestCase):
    SETS = (("set", 0, 1), ("set", 1, 2), ("set", 2, 3))

    def counted(self, design, block, state=STATE):
        """The number of rows, by going on behind each row that does not end the run."""
        rows = [()]
        many = 0
        while rows:
            row = rows.pop()
            events = events_behind(design, block, state, NEXT, row)
            many += not events
            rows.extend(row + (event,) for event in events)
        return many

    def test_no_instruction_and_one(self):
        for width in (1, 4):
            self.assertEqual(count_rows(design_of(width=width), (), STATE), 1)
            for instruction in (("get", 0, 1, 2), ("put", 0, 1, 2), ("show", 3)):
                self.assertEqual(count_rows(design_of(width=width), (instruction,), STATE), 1)

    def test_two_and_three_without_a_table(self):
        two, three = self.SETS[:2], self.SETS
        self.assertEqual(
            [count_rows(design_of(width=width), two, STATE) for width in (1, 2, 3, 4)],
            [1, 126, 126, 126],
        )
        self.assertEqual(
            [count_rows(design_of(width=width), three, STATE) for width in (1, 3, 4)],
            [1, 126126, 126126],
        )
        self.assertEqual(count_rows(design_of(inorder=True, width=2), two, STATE), 70)

    def test_by_all_rows(self):
        for block in (
            (("show", 0), ("show", 1)), (("set", 0, 5), ("sum", 1, 0, 0, 0)),
            (("put", 0, 1, 2), ("get", 0, 3, 1)), (("put", 0, 1, 2), ("get", 0, 2, 2)),
            (("get", 1, 1, 2), ("put", 0, 1, 2)),
        ):
            for hands in (True, False):
                for homes in (("out",) * 3, ("write",) * 3):
                    design = design_of(width=2, hands=hands, homes=homes)
                    for told in (design, freest(design)):
                        self.assertEqual(
                            count_rows(told, block, TOLD), self.counted(told, block, TOLD)
                        )

    def test_cells_that_are_unlike_by_what_was_read(self):
        # Whether the get waits for the put is known when both have read their cells.
        block = (("set", 0, 1), ("put", 1, 0, 0), ("get", 2, 7, 0))
        table = (
            ("cells", "put", "get", "out", "make"), ("any", "put", "get", "read", "lay"),
            ("any", "set", "get", "out", "lay"), ("any", "set", "put", "read", "lay"),
        )
        told = []
        for hands in (True, False):
            for homes in (("out",) * 3, ("write",) * 3):
                design = design_of(*table, width=3, hands=hands, homes=homes)
                told.append(count_rows(design, block, STATE))
                self.assertEqual(told[-1], self.counted(design, block))
        self.assertEqual(len(set(told)), 3)

    def test_three_by_what_holds_back(self):
        source = random.Random(26)
        for _ in range(20):
            block = tuple(source.choice((("set", 0, 1), ("show", 0))) for _ in range(3))
            table = {
                ("any", source.choice(("set", "show")), source.choice(("set", "show")),
                 source.choice(EVENTS[1:]), source.choice(EVENTS))
                for _ in range(source.randrange(4))
            }
            width, inorder = source.choice((1, 2, 3)), source.random() < 0.3
            design = design_of(*table, width=width, inorder=inorder)
            self.assertEqual(count_rows(design, block, STATE), self.ways(design, block))

    def ways(self, design, block):
        """The number of rows by the numbers of events done alone: the table says "any" only."""
        width, inorder, table = design[0], design[1], design[4]

        def can_do(done, place):
            event = done[place]
            if event == 5 or (event == 0 and 0 in done[:place]):
                return False
            if event == 0 and sum(0 < other < 5 for other in done) >= width:
                return False
            if event == 4 and inorder and set(done[:place]) - {5}:
                return False
            return not any(
                (kind, other) == (block[ahead][0], block[place][0])
                and q == EVENTS[event] and done[ahead] <= EVENTS.index(p)
                for ahead in range(place) for _, kind, other, p, q in table
            )

        @functools.lru_cache(None)
        def ways_from(done):
            if set(done) == {5}:
                return 1
            return sum(
                ways_from(done[:place] + (done[place] + 1,) + done[place + 1:])
                for place in range(len(done)) if can_do(done, place)
            )

        return ways_from((0,) * len(block))

    def test_bad_blocks(self):
        for value in NO_TUPLES + (
            self.SETS + self.SETS[:1], (("if", 0, 0),), (("set", 0, 1), ("if", 0, 1)),
            (("set", 0, 1), ("if", 0, 41)), (None,), ("set",), (("set", 0),), (["set", 0, 1],),
            [("set", 0, 1)], (("set", 0, 256),), (("set", True, 1),), (("hop", 1),), ("set", 0, 1),
        ):
            with self.subTest(value=value):
                with self.assertRaises(BadBlock) as caught:
                    count_rows(DESIGN, value, STATE)
                self.assertEqual(vars(caught.exception), {})

    def test_which_error_stands_first(self):
        for value in (None, (("if", 0, 0),)):
            with self.assertRaises(BadDesign):
                count_rows(None, value, None)
            with self.assertRaises(BadBlock):
                count_rows(DESIGN, value, None)
        with self.assertRaises(BadState):
            count_rows(DESIGN, (), None)


class RoundsOf(unittest.TestCase):
    def rounds(self, design, program, state=STATE, guesser=NEXT):
        """The number of rounds, by their words."""
        row = ()
        many = 0
        while not has_ended(design, program, state, guesser, row):
            for event in events_behind(design, program, state, guesser, row):
                if event in events_behind(design, program, state, guesser, row):
                    row += (event,)
            many += 1
        return many

    def test_no_round(self):
        self.assertEqual(rounds_of(DESIGN, (), STATE, NEXT), 0)

    def test_widths(self):
        program = (("set", 0, 1), ("set", 1, 2), ("set", 2, 3), ("set", 3, 4), ("set", 4, 5))
        # Each one needs five rounds; a place is free in the round behind that of an out.
        told = [rounds_of(design_of(width=width), program, STATE, NEXT) for width in (1, 2, 3, 4)]
        self.assertEqual(told, [25, 15, 11, 10])

    def test_one_that_waits(self):
        design = freest(design_of(width=2))
        self.assertEqual(rounds_of(design, (("set", 0, 1), ("show", 1)), STATE, NEXT), 6)
        self.assertEqual(rounds_of(design, (("set", 0, 1), ("show", 0)), STATE, NEXT), 7)

    def test_an_event_that_can_come_no_longer(self):
        # At the beginning of the third round m0 and r1 can come, but m0 throws place 1 away.
        program = (("if", 0, 3), ("show", 1), ("show", 2))
        for width in (2, 3, 4):
            self.assertEqual(rounds_of(design_of(width=width), program, STATE, NEXT), 5)
        program += (("show", 3),)
        self.assertEqual(rounds_of(design_of(width=2), program, STATE, NEXT), 8)
        self.assertEqual(rounds_of(design_of(width=4), program, STATE, NEXT), 8)
        self.assertEqual(rounds_of(design_of(width=4), program, STATE, GOAL), 6)

    def test_what_comes_in_a_round_only_from_its_beginning_on(self):
        # The show may read as soon as the set is out, in the same round, but it waits for the next.
        table = (("any", "set", "show", "out", "read"),)
        program = (("set", 0, 1), ("show", 0))
        self.assertEqual(rounds_of(design_of(*table), program, STATE, NEXT), 9)

    def test_by_its_words(self):
        source = random.Random(27)
        tried = 0
        while tried < 60:
            design = design_of(width=source.choice((1, 2, 3, 4)), inorder=source.random() < 0.3)
            if source.random() < 0.7:
                design = freest(design)
            program = random_program(source, source.randrange(6))
            guesser = source.choice((NEXT, GOAL, ("row", (3, 1, 7))))
            try:
                told = rounds_of(design, program, STATE, guesser)
            except TooLong:
                continue
            tried += 1
            self.assertIs(type(told), int)
            self.assertEqual(told, self.rounds(design, program, STATE, guesser))

    def test_200_rounds(self):
        sets = (("set", 1, 5),) * 40
        self.assertEqual(rounds_of(design_of(width=1), sets, STATE, NEXT), 200)
        back = (("set", 0, 1),) + (("set", 1, 5),) * 37 + (("if", 1, 0), ("if", 0, 0))
        self.assertEqual(rounds_of(design_of(width=1), back, STATE, NEXT), 200)

    def test_too_long(self):
        long = (("set", 0, 1), ("if", 2, 3)) + (("set", 0, 0),) * 37 + (("if", 0, 0),)
        for program, width in (((("if", 0, 0),), 1), ((("if", 0, 0),), 4), (long, 1), (long, 4)):
            for guesser in (NEXT, GOAL):
                with self.assertRaises(TooLong) as caught:
                    rounds_of(design_of(width=width), program, STATE, guesser)
                self.assertEqual(vars(caught.exception), {"most": 200})

    def test_just_too_long(self):
        # The loop is done twice: 39, 40 and 41 instructions in all.
        program = (("set", 0, 1), ("sum", 1, 1, 7, 255), ("if", 1, 1)) + (("set", 2, 2),) * 36
        state = state_of((0, 1))
        self.assertEqual(rounds_of(design_of(width=1), program[:37], state, GOAL), 195)
        self.assertEqual(rounds_of(design_of(width=1), program[:38], state, GOAL), 200)
        with self.assertRaises(TooLong):
            rounds_of(design_of(width=1), program, state, GOAL)

    def test_201_rounds(self):
        # Each read waits for the out ahead of it: 4 rounds for each of 50 instructions, and one.
        design = design_of(*[("any",) + pair + ("out", "read") for pair in PAIRS], width=2)
        program = (("set", 0, 1), ("sum", 1, 1, 7, 255)) + (("set", 2, 2),) * 20 + (("if", 1, 1),)
        state = state_of((0, 1))
        self.assertEqual(rounds_of(design, program + (("show", 0),) * 4, state, NEXT), 197)
        with self.assertRaises(TooLong):
            rounds_of(design, program + (("show", 0),) * 5, state, NEXT)


if __name__ == "__main__":
    unittest.main()
