"""Points 7 and 8: programs, their steps and their texts."""

import unittest

from untoldrule.errors import InvalidProgram
from untoldrule.programs import Program, Read, ReadWrite, Write

WRONG_NAMES = ["", "abcdefghi", "A", "aB", "x1", "1", "x_y", "_", "x-y", "x\t", "x\r", "\u00e9", "\u0430"]

# A line of each kind, with its class and the cells that it reads and writes; a, b and c have been read before it.
STEPS = [
    ("read x as a", Read, ("x",), ()),
    ("read abcdefgh as zyxwvuts", Read, ("abcdefgh",), ()),
    ("write y by f", Write, (), ("y",)),
    ("write y by f of a", Write, (), ("y",)),
    ("write y by f of a b", Write, (), ("y",)),
    ("write y by f of a b c", Write, (), ("y",)),
    ("write y by f of c a a", Write, (), ("y",)),
    ("write y by f of b b b", Write, (), ("y",)),
    ("write abcdefgh by zyxwvuts of a", Write, (), ("abcdefgh",)),
    ("read x as a write y by f", ReadWrite, ("x",), ("y",)),
    ("read x as a write x by f", ReadWrite, ("x",), ("x",)),
    ("read x as d write y by f of d", ReadWrite, ("x",), ("y",)),
    ("read x as d write x by f of d", ReadWrite, ("x",), ("x",)),
    ("read x as d write y by f of a d", ReadWrite, ("x",), ("y",)),
    ("read x as d write y by f of d a d", ReadWrite, ("x",), ("y",)),
    ("read x as a write y by f of c b a", ReadWrite, ("x",), ("y",)),
]
START = "program p\nread x as a\nread y as b\nread z as c"

# Lines that are wrong wherever they stand, although a has been read.
WRONG_STEPS = [
    "",
    " ",
    "a",
    "read",
    "read x",
    "read x as",
    "read x a",
    "read as a",
    "read x by a",
    "read x as a b",
    "read x as a of a",
    "read x as a by f",
    "read x as a read y as b",
    "read x as a write",
    "read x as a write y",
    "read x as a write y by",
    "read x as a write by f",
    "read x as a write y as f",
    "read x as a write y by f of",
    "read x as a write y by f a",
    "read x as a write y by f of a a a a",
    "read x as a write y by f of a of a",
    "read x as a write y by f write y by f",
    "read x as a and write y by f",
    "read x by a write y by f",
    "write y by f read x as a",
    "write",
    "write y",
    "write y by",
    "write by f",
    "write y f",
    "write y as f",
    "write y by f of",
    "write y by f a",
    "write y by f by a",
    "write y by f of a a a a",
    "write y by f of a a a a a",
    "write y by f of a, a",
    "write y by f of a write y by f",
    "Read x as a",
    "READ x as a",
    "Write y by f",
    "read x AS a",
    "write y By f",
    "write y by f Of a",
    "skip",
    "program p",
    "reads x as a",
    "# read x as a",
]

# Right lines, each of which is wrong with one more space somewhere, or with another character for a space.
SPACED = ["read x as a", "write y by f", "write y by f of a a", "read x as a write y by f of a"]


def program_with(line):
    return f"program p\nread x as a\n{line}"


class WrongLines(unittest.TestCase):
    def assert_wrong(self, text, line):
        with self.subTest(text=text):
            with self.assertRaises(InvalidProgram) as caught:
                Program.read(text)
            self.assertEqual(caught.exception.line, line)


class StepsTest(unittest.TestCase):
    def test_each_kind_of_step(self):
        for line, kind, reads, writes in STEPS:
            with self.subTest(line=line):
                program = Program.read(f"{START}\n{line}")
                step = program.steps[3]
                self.assertIs(type(step), kind)
                self.assertEqual(step.text(), line)
                self.assertEqual(step.reads(), reads)
                self.assertEqual(step.writes(), writes)
                self.assertIs(type(step.reads()), tuple)
                self.assertIs(type(step.writes()), tuple)

    def test_bases_of_the_classes(self):
        self.assertEqual(Read.__bases__, (object,))
        self.assertEqual(Write.__bases__, (object,))
        self.assertEqual(ReadWrite.__bases__, (Read, Write))

    def test_steps_are_a_tuple_in_the_order_of_the_lines(self):
        program = Program.read("program p\nread x as a\nwrite y by f of a\nread y as a write x by g of a\nwrite z by h")
        self.assertIs(type(program.steps), tuple)
        self.assertEqual([type(step) for step in program.steps], [Read, Write, ReadWrite, Write])
        self.assertEqual([step.reads() for step in program.steps], [("x",), (), ("y",), ()])
        self.assertEqual([step.writes() for step in program.steps], [(), ("y",), ("x",), ("z",)])


class TextsTest(unittest.TestCase):
    def test_name_and_text_of_programs_with_no_to_four_steps(self):
        lines = ["read x as a", "write y by f of a", "read y as b write x by g of b a", "write z by h"]
        for many in range(5):
            text = "\n".join(["program abcdefgh", *lines[:many]])
            with self.subTest(many=many):
                program = Program.read(text)
                self.assertEqual(program.name, "abcdefgh")
                self.assertEqual(len(program.steps), many)
                self.assertEqual([step.text() for step in program.steps], lines[:many])
                self.assertEqual(program.text(), text)

    def test_text_of_each_kind_of_step(self):
        for line, _, _, _ in STEPS:
            with self.subTest(line=line):
                self.assertEqual(Program.read(f"{START}\n{line}").text(), f"{START}\n{line}")

    def test_names_of_one_and_of_eight_letters(self):
        self.assertEqual(Program.read("program a").name, "a")
        self.assertEqual(Program.read("program zyxwvuts").name, "zyxwvuts")

    def test_one_word_for_all_kinds_of_names(self):
        program = Program.read("program x\nread x as x write x by x of x x x")
        self.assertEqual(program.name, "x")
        self.assertEqual(program.steps[0].text(), "read x as x write x by x of x x x")

    def test_names_that_are_the_words_of_the_lines(self):
        for word in ("program", "read", "as", "write", "by", "of"):
            lines = [
                f"program {word}",
                f"read {word} as {word}",
                f"write {word} by {word} of {word} {word} {word}",
                f"read {word} as {word} write {word} by {word} of {word}",
                f"write {word} by {word}",
            ]
            with self.subTest(word=word):
                program = Program.read("\n".join(lines))
                self.assertEqual(program.name, word)
                self.assertEqual([type(step) for step in program.steps], [Read, Write, ReadWrite, Write])
                self.assertEqual([step.text() for step in program.steps], lines[1:])
                self.assertEqual([step.reads() for step in program.steps], [(word,), (), (word,), ()])
                self.assertEqual([step.writes() for step in program.steps], [(), (word,), (word,), (word,)])

    def test_the_position_of_a_word_decides(self):
        program = Program.read("program as\nread write as read write by by of\nread as as of write of by by of of read")
        self.assertEqual([type(step) for step in program.steps], [ReadWrite, ReadWrite])
        self.assertEqual([step.reads() for step in program.steps], [("write",), ("as",)])
        self.assertEqual([step.writes() for step in program.steps], [("by",), ("of",)])

    def test_a_variable_may_be_read_again(self):
        program = Program.read("program p\nread x as a\nread y as a\nread x as a write x by f of a\nread z as a")
        self.assertEqual(len(program.steps), 4)

    def test_a_variable_of_a_read_that_also_writes_is_known_to_later_steps(self):
        program = Program.read("program p\nread x as a write x by f\nwrite y by f of a")
        self.assertEqual(program.steps[1].text(), "write y by f of a")

    def test_a_function_may_have_different_numbers_of_arguments_in_a_text(self):
        text = "program p\nread x as a\nwrite x by f of a\nwrite x by f of a a\nwrite x by f"
        self.assertEqual(Program.read(text).text(), text)

    def test_programs_are_made_by_the_class_that_reads_them(self):
        self.assertIs(type(Program.read("program p")), Program)
        self.assertIsNot(Program.read("program p"), Program.read("program p"))


class WrongFirstLineTest(WrongLines):
    def test_the_empty_text(self):
        self.assert_wrong("", 1)

    def test_wrong_forms(self):
        for line in (
            " ",
            "p",
            "program",
            "program ",
            " program p",
            "program p ",
            "program  p",
            "program\tp",
            "program p q",
            "programp",
            "Program p",
            "PROGRAM p",
            "read x as a",
            "p program",
            "\ufeffprogram p",
            "program p\r",
        ):
            self.assert_wrong(line, 1)
            self.assert_wrong(f"{line}\nread x as a", 1)
            self.assert_wrong(f"{line}\nwrong", 1)

    def test_wrong_names(self):
        for name in WRONG_NAMES:
            self.assert_wrong(f"program {name}", 1)
            self.assert_wrong(f"program {name}\nread x as a", 1)

    def test_an_empty_first_line(self):
        self.assert_wrong("\nprogram p", 1)
        self.assert_wrong("\n", 1)


class WrongStepsTest(WrongLines):
    def test_wrong_forms(self):
        for line in WRONG_STEPS:
            self.assert_wrong(program_with(line), 3)
            self.assert_wrong(f"{program_with(line)}\nread x as a", 3)

    def test_wrong_names_at_each_position(self):
        for name in WRONG_NAMES:
            for line in (
                f"read {name} as a",
                f"read x as {name}",
                f"write {name} by f",
                f"write y by {name}",
                f"write {name} by f of a",
                f"write y by {name} of a",
                f"write y by f of {name}",
                f"write y by f of a {name}",
                f"write y by f of a a {name}",
                f"read {name} as a write y by f of a",
                f"read x as {name} write y by f",
                f"read x as {name} write y by f of {name}",
                f"read x as a write {name} by f of a",
                f"read x as a write y by {name} of a",
                f"read x as a write y by f of {name}",
            ):
                self.assert_wrong(program_with(line), 3)

    def test_more_than_one_space_at_each_position(self):
        for line in SPACED:
            self.assert_wrong(program_with(f" {line}"), 3)
            self.assert_wrong(program_with(f"{line} "), 3)
            words = line.split(" ")
            for at in range(1, len(words)):
                before, after = " ".join(words[:at]), " ".join(words[at:])
                for gap in ("", "  ", "   ", "\t", " \t", "\r", "\x0b", "\u00a0", "\u2028", ","):
                    self.assert_wrong(program_with(f"{before}{gap}{after}"), 3)

    def test_only_a_newline_ends_a_line(self):
        for end in ("\r\n", "\r", "\x0b", "\x0c", "\x1c", "\x85", "\u2028", "\u2029"):
            self.assert_wrong(f"program p{end}read x as a", 1)
            self.assert_wrong(f"program p\nread x as a{end}read y as b", 2)

    def test_variables_that_have_not_been_read(self):
        self.assert_wrong("program p\nwrite x by f of a", 2)
        for line in (
            "write x by f of b",
            "write x by f of a b",
            "write x by f of b a",
            "write x by f of a a b",
            "write x by f of a b a",
            "write x by f of x",
            "write x by f of f",
            "write x by f of p",
            "read x as c write x by f of b",
            "read x as c write x by f of c a b",
            "read b as a write b by b of b",
        ):
            self.assert_wrong(program_with(line), 3)

    def test_a_variable_that_only_a_later_step_reads(self):
        self.assert_wrong("program p\nwrite x by f of a\nread x as a", 2)
        self.assert_wrong("program p\nread x as b write x by f of a\nread x as a", 2)

    def test_a_written_line_reads_no_variable(self):
        self.assert_wrong("program p\nwrite a by a\nwrite x by f of a", 3)

    def test_variables_belong_to_one_program_only(self):
        Program.read("program p\nread x as a")
        self.assert_wrong("program q\nwrite x by f of a", 2)

    def test_a_fifth_step(self):
        lines = ["program p", "read x as a", "write x by f of a", "read x as a write x by f", "write x by f"]
        Program.read("\n".join(lines))
        for line in ("read x as a", "write x by f", "read x as a write x by f of a", "wrong", ""):
            self.assert_wrong("\n".join([*lines, line]), 6)
            self.assert_wrong("\n".join([*lines, line, "read x as a"]), 6)
            self.assert_wrong("\n".join([*lines, line, "wrong"]), 6)

    def test_a_newline_at_the_end(self):
        lines = ["program p", "read x as a", "write x by f of a", "read x as a write x by f", "write x by f"]
        for many in range(1, 6):
            self.assert_wrong("\n".join(lines[:many]) + "\n", many + 1)
            self.assert_wrong("\n".join(lines[:many]) + "\n\n", many + 1)

    def test_an_empty_line_between_two_steps(self):
        self.assert_wrong("program p\n\nread x as a", 2)
        self.assert_wrong("program p\nread x as a\n\nread x as a", 3)

    def test_the_first_wrong_line_at_each_place(self):
        for many in range(4):
            right = ["program p", *["read x as a"] * many]
            self.assert_wrong("\n".join([*right, "wrong"]), many + 2)
            self.assert_wrong("\n".join([*right, "wrong", "write y by f of b"]), many + 2)
            self.assert_wrong("\n".join([*right, "write y by f of b", "wrong"]), many + 2)
            self.assert_wrong("\n".join([*right, "wrong", *["read x as a"] * 6]), many + 2)

    def test_a_second_program_in_the_text(self):
        self.assert_wrong("program p\nread x as a\nprogram q\nread x as a", 3)


if __name__ == "__main__":
    unittest.main()
