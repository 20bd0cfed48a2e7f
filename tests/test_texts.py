"""Point 25: texts of programs and designs."""

import random
import unittest

from tests.samples import (
    ALL_HOMES, DESIGN, ENTRY, EVENTS, KINDS, NO_DESIGNS, NO_PROGRAMS, NO_TUPLES, RELATIONS,
    design_of, random_program,
)
from windowbelt.errors import BadDesign, BadProgram, InvalidText, NotText, WindowError
from windowbelt.frees import freest
from windowbelt.rights import needs
from windowbelt.texts import read_design, read_program, write_design, write_program

NO_TEXTS = (
    True, False, None, 0, 1, -1, 10 ** 30, (), ("show 0",), [], ["show 0"], {}, {"show 0": 0},
    b"show 0", WindowError("show 0"), BadProgram(0),
)
HEAD = ("width 2", "inorder no", "hands yes", "homes write write out")
LINES = ("any set sum out lay", "cells put get out make", "feeds get if make read")

# Words that are not written as a number from 0 on is.
NO_NUMBERS = (
    "00", "01", "000", "05", "+1", "-1", "-0", "1.0", "1e0", "0x1", "1_0", "", "x", "one", "None",
    "True", "\u0661", "\u00b2", "\uff11", "\u0967", "1\u0661", "1\t", "\t1", "1\r", "1,", "(1)",
)


class Texts(unittest.TestCase):
    read = None

    def assert_line(self, text, line):
        with self.assertRaises(InvalidText) as caught:
            self.read(text)
        self.assertEqual(vars(caught.exception), {"line": line}, text)


class Examples(unittest.TestCase):
    def test_answers(self):
        text = "width 1\ninorder yes\nhands no\nhomes out out write\nany set sum out lay"
        self.assertEqual(
            [
                read_program("set 1 5\nif 1 0"), write_program((("put", 2, 0, 1),)),
                read_design(text), write_design(read_design(text)) == text,
            ],
            [
                (("set", 1, 5), ("if", 1, 0)), "put 2 0 1",
                (1, True, False, ("out", "out", "write"), (("any", "set", "sum", "out", "lay"),)),
                True,
            ],
        )

    def test_error(self):
        with self.assertRaises(InvalidText) as caught:
            read_program("show")
        self.assertEqual(caught.exception.line, 1)


class WritePrograms(unittest.TestCase):
    def test_every_kind(self):
        program = (
            ("set", 7, 255), ("sum", 0, 1, 2, 30), ("get", 3, 4, 5), ("put", 6, 7, 0),
            ("if", 0, 6), ("show", 1),
        )
        text = "set 7 255\nsum 0 1 2 30\nget 3 4 5\nput 6 7 0\nif 0 6\nshow 1"
        self.assertEqual(write_program(program), text)
        self.assertEqual(read_program(text), program)

    def test_no_instruction(self):
        self.assertEqual(write_program(()), "")

    def test_wrong_programs(self):
        wrong = NO_PROGRAMS + tuple((value, None) for value in NO_TUPLES)
        for value, index in wrong + ((("show", 0), 0), (("show",), 0), ((("show", 0),) * 41, None)):
            with self.assertRaises(BadProgram) as caught:
                write_program(value)
            self.assertEqual(vars(caught.exception), {"index": index})

    def test_there_and_back(self):
        source = random.Random(25)
        for many in list(range(12)) + [39, 40]:
            program = random_program(source, many)
            text = write_program(program)
            self.assertIs(type(text), str)
            self.assertEqual(read_program(text), program)
            self.assertEqual(write_program(read_program(text)), text)


class ReadPrograms(Texts):
    read = staticmethod(read_program)

    def test_no_line(self):
        self.assertEqual(read_program(""), ())
        self.assertIs(type(read_program("show 0")), tuple)
        self.assertEqual([type(item) for item in read_program("show 0")[0]], [str, int])

    def test_no_texts(self):
        for value in NO_TEXTS:
            with self.subTest(value=value), self.assertRaises(NotText):
                read_program(value)

    def test_how_numbers_are_written(self):
        for word in NO_NUMBERS:
            for text in (f"set {word} 5", f"set 1 {word}", f"show {word}", f"get 0 {word} 0"):
                self.assert_line(text, 1)
                self.assert_line(f"show 0\n{text}", 2)

    def test_greatest_numbers(self):
        for text, greater in (
            ("set 7 255", ("set 8 255", "set 7 256", "set 70 255", "set 7 1000")),
            ("sum 7 7 7 255", ("sum 8 0 0 0", "sum 0 8 0 0", "sum 0 0 8 0", "sum 0 0 0 256")),
            ("get 7 7 7", ("get 8 0 0", "get 0 8 0", "get 0 0 8")),
            ("put 7 7 7", ("put 8 0 0", "put 0 8 0", "put 0 0 8")),
            ("if 7 1", ("if 8 0", "if 0 2", "if 0 41")),
            ("show 7", ("show 8", "show 10")),
        ):
            self.assertEqual(write_program(read_program(text)), text)
            for other in greater:
                self.assert_line(other, 1)

    def test_numbers_of_many_digits(self):
        for many in (9, 10, 11, 30, 4000, 5000, 100000):
            for word in ("1" * many, "1" + "0" * many, "0" * many):
                for text in (f"set 0 {word}", f"show {word}", f"if 0 {word}"):
                    self.assert_line(text, 1)

    def test_too_many_or_too_few_numbers(self):
        for text in (
            "set", "set 1", "set 1 2 3", "sum 1 2 3", "sum 1 2 3 4 5", "get 1 2", "get 1 2 3 4",
            "put 1 2", "put 1 2 3 4", "if 1", "if 1 0 0", "show", "show 1 2", "1", "1 2",
        ):
            self.assert_line(text, 1)

    def test_spaces(self):
        for text in (
            " show 0", "show 0 ", "show  0", "show\t0", "show 0\t", "\tshow 0", "show 0\r",
            "set 1  5", "set 1 5  ", " ", "\t", "show\u00a00", "show\x0b0", "set 1\x1f5",
        ):
            self.assert_line(text, 1)
            self.assert_line(f"show 0\n{text}\nshow 0", 2)

    def test_words(self):
        for word in ("hop", "Set", "SHOW", "shows", "sho", "", "lay", "None", "show0", "0"):
            self.assert_line(f"{word} 0", 1)
            self.assert_line(f"{word} 0 0", 1)

    def test_empty_lines(self):
        self.assert_line("\n", 1)
        self.assert_line("\nshow 0", 1)
        self.assert_line("show 0\n", 2)
        self.assert_line("show 0\n\nshow 1", 2)
        self.assert_line("show 0\nshow 1\n\n", 3)

    def test_other_ends_of_lines(self):
        for end in ("\r\n", "\r", "\x0b", "\x0c", "\x85", "\u2028", "\\n"):
            self.assert_line(f"show 0{end}show 1", 1)

    def test_goals(self):
        self.assertEqual(read_program("if 0 1"), (("if", 0, 1),))
        self.assertEqual(read_program("if 0 0"), (("if", 0, 0),))
        self.assert_line("if 0 2", 1)
        self.assertEqual(read_program("show 0\nif 0 3\nshow 0")[1], ("if", 0, 3))
        self.assert_line("show 0\nif 0 4\nshow 0", 2)
        # The lines are counted whether they are right or not.
        self.assert_line("if 0 2\nhop", 2)
        self.assert_line("if 0 2\n", 2)
        self.assert_line("if 0 3\n", 1)

    def test_40_and_41_lines(self):
        lines = ["show 0"] * 40
        self.assertEqual(read_program("\n".join(lines)), (("show", 0),) * 40)
        self.assert_line("\n".join(lines + ["show 0"]), 41)
        self.assert_line("\n".join(lines * 3), 41)
        self.assert_line("\n".join(lines + [""]), 41)
        self.assertEqual(read_program("\n".join(["if 0 40"] + lines[1:]))[0], ("if", 0, 40))
        self.assert_line("\n".join(["if 0 40"] + lines), 41)
        self.assert_line("\n".join(["if 0 41"] + lines), 1)
        self.assert_line("\n".join(lines[1:] + ["hop"] + lines), 40)

    def test_the_first_of_several_wrong_lines(self):
        lines = ["show 0", "set 1 5", "if 0 2", "show 1"]
        for first in range(4):
            for other in range(first, 4):
                wrong = list(lines)
                wrong[first], wrong[other] = "hop", "show 8"
                self.assert_line("\n".join(wrong), first + 1)


class WriteDesigns(unittest.TestCase):
    def test_heads(self):
        for width in (1, 2, 3, 4):
            for inorder, order in ((True, "yes"), (False, "no")):
                for hands, hand in ((True, "yes"), (False, "no")):
                    for homes in ALL_HOMES:
                        design = (width, inorder, hands, homes, ())
                        text = "\n".join([
                            f"width {width}", f"inorder {order}", f"hands {hand}",
                            f"homes {homes[0]} {homes[1]} {homes[2]}",
                        ])
                        self.assertEqual(write_design(design), text)
                        self.assertEqual(read_design(text), design)

    def test_tables(self):
        design = design_of(ENTRY, ("any", "get", "sum", "out", "lay"), width=2)
        self.assertEqual(
            write_design(design),
            "width 2\ninorder no\nhands yes\nhomes out out out\n"
            "any get sum out lay\nany set sum out lay",
        )

    def test_there_and_back(self):
        every = [
            (relation, kind, other, done, event) for relation in RELATIONS for kind in KINDS
            for other in KINDS for done in EVENTS[1:] for event in EVENTS
        ]
        for design in (
            DESIGN, freest(DESIGN), design_of(*needs(DESIGN)), design_of(*every),
            design_of(*every[::7], inorder=True, hands=False, width=1),
        ):
            text = write_design(design)
            self.assertIs(type(text), str)
            self.assertEqual(len(text.split("\n")), 4 + len(design[4]))
            self.assertEqual(read_design(text), design)
            told = read_design(text)
            self.assertEqual([type(part) for part in told], [int, bool, bool, tuple, tuple])

    def test_wrong_designs(self):
        for value in NO_DESIGNS + (write_design(DESIGN),):
            with self.subTest(value=value), self.assertRaises(BadDesign):
                write_design(value)


class ReadDesigns(Texts):
    read = staticmethod(read_design)

    def text(self, *lines):
        return "\n".join(HEAD + lines)

    def test_no_texts(self):
        for value in NO_TEXTS:
            with self.subTest(value=value), self.assertRaises(NotText):
                read_design(value)

    def test_sound_ones(self):
        self.assertEqual(read_design(self.text()), DESIGN)
        table = tuple(tuple(line.split(" ")) for line in LINES)
        self.assertEqual(read_design(self.text(*LINES)), DESIGN[:4] + (table,))

    def test_lines_lacking_at_the_end(self):
        self.assert_line("", 1)
        for many in (1, 2, 3):
            self.assert_line("\n".join(HEAD[:many]), many + 1)
            self.assert_line("\n".join(HEAD[:many]) + "\n", many + 1)

    def test_each_line_lacking(self):
        for place in range(4):
            lines = HEAD[:place] + HEAD[place + 1:]
            self.assert_line("\n".join(lines), place + 1)
            self.assert_line("\n".join(lines + LINES), place + 1)

    def test_lines_in_another_place(self):
        for one in range(4):
            for other in range(one + 1, 4):
                lines = list(HEAD)
                lines[one], lines[other] = lines[other], lines[one]
                self.assert_line("\n".join(lines), one + 1)
        self.assert_line("\n".join(("",) + HEAD), 1)
        self.assert_line("\n".join(LINES + HEAD), 1)
        for line in HEAD:
            self.assert_line(self.text(line), 5)

    def test_wrong_lines(self):
        for place, wrong in enumerate((
            ("width 0", "width 5", "width", "width 01", "width 2 2", "width yes", "width 22",
             "Width 2", "2", "width  2", " width 2", "width 2 ", "width\t2", "width +2", "",
             "width \u0662", "width " + "1" * 5000),
            ("inorder", "inorder 1", "inorder True", "inorder Yes", "inorder no no", "hands no",
             "in order no", "inorder  no", "inorder no ", "inorderno", "no", ""),
            ("hands", "hands 0", "hands False", "hands NO", "hands yes yes", "inorder no",
             "hand yes", "hands  no", " hands no", "yes", ""),
            ("homes", "homes out out", "homes out out out out", "homes out make out",
             "homes write read out", "homes lay lay lay", "homes out  out out", "homes Out out out",
             "homes out,out,out", "home out out out", "out out out", "homes out out out ", ""),
        )):
            for line in wrong:
                lines = HEAD[:place] + (line,) + HEAD[place + 1:]
                self.assert_line("\n".join(lines), place + 1)
                self.assert_line("\n".join(lines + LINES), place + 1)
                self.assert_line("\n".join(lines[:place + 1]), place + 1)

    def test_entries_that_are_none(self):
        for line in (
            "", " ", "any", "any set sum out", "any set sum out lay lay", "any set sum lay out",
            "any set hop out lay", "hop set sum out lay", "any hop sum out lay", "ENTRY",
            "any set sum hop lay", "any set sum out hop", "any  set sum out lay",
            "any set sum out lay ", " any set sum out lay", "any\tset sum out lay",
            "Any set sum out lay", "any set sum out lay\r", "any,set,sum,out,lay", "width 2",
        ):
            self.assert_line(self.text(line), 5)
            self.assert_line(self.text(LINES[0], line), 6)
            self.assert_line(self.text(*LINES, line), 8)
            self.assert_line(self.text(line, *LINES), 5)

    def test_a_last_end_of_line(self):
        self.assert_line(self.text(""), 5)
        self.assert_line(self.text(*LINES) + "\n", 8)

    def test_entries_that_do_not_ascend(self):
        self.assert_line(self.text(LINES[1], LINES[0]), 6)
        self.assert_line(self.text(LINES[0], LINES[2], LINES[1]), 7)
        self.assert_line(self.text(LINES[2], LINES[1], LINES[0]), 6)

    def test_entries_that_stand_twice(self):
        self.assert_line(self.text(LINES[0], LINES[0]), 6)
        self.assert_line(self.text(LINES[0], LINES[1], LINES[1], LINES[2]), 7)
        self.assert_line(self.text(LINES[0], LINES[1], LINES[0]), 7)

    def test_the_order_is_that_of_tuples_of_words(self):
        self.assertEqual(
            len(read_design(self.text("any get sum out lay", "any set get out lay"))[4]), 2
        )
        self.assertEqual(
            len(read_design(self.text("any if sum out out", "any put get make lay"))[4]), 2
        )

    def test_the_first_of_several_wrong_lines(self):
        lines = HEAD + LINES
        for first in range(7):
            for other in range(first, 7):
                wrong = list(lines)
                wrong[first] = wrong[other] = "hop"
                self.assert_line("\n".join(wrong), first + 1)
        self.assert_line("width 2\nhands yes", 2)
        self.assert_line("width 2\ninorder no\nhomes out out out", 3)


if __name__ == "__main__":
    unittest.main()
