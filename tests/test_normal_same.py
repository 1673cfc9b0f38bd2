"""Promises 3 and 4: normal and same."""

import unittest

from tests.helper import EXAMPLE, as_bytes, last, lines, text

BOOK = lines(
    "field none text",
    "field lower text lower",
    "field plain text plain",
    "field sorted text sorted",
    "field all text lower plain sorted",
)

TWO_STEPS = lines(
    "field lp text lower plain",
    "field ls text lower sorted",
    "field ps text plain sorted",
    "field n num",
)

NO_TEXT_CELLS = (" ", "a ", " a", "|", "a | b", "x" * 25, "x" * 5000, "a\n", "\t", "a\x1fb", "\x7f", "\x80", "\xff", "\x00")

NO_NUMBER_CELLS = ("07", "-0", "+1", "a", "-", "1 ", " 1", " ", "00", "1000000001", "-1000000001", "9" * 4900,
                   "-" + "9" * 4900, "1|", "1\n", "--1", "\xb2", "1_0")


class Normal(unittest.TestCase):
    def forms(self, field, expected, book=BOOK):
        for cell, form in expected.items():
            self.assertEqual(last(("read", book), ("normal", field, cell)), text(form), (field, cell))

    def test_no_steps(self):
        self.forms("none", {"": "", "Lee,  Ann!": "Lee,  Ann!", "x" * 24: "x" * 24, "~ !": "~ !"})

    def test_new_object(self):
        self.assertEqual(last(("normal", "a", "B  a,")), text("B  a,"))

    def test_lower(self):
        self.forms("lower", {"": "", "Lee,  ANN!": "lee,  ann!", "AZaz09@[`{": "azaz09@[`{", "B A": "b a"})

    def test_plain(self):
        self.forms("plain", {"": "", "Lee,  ANN!": "Lee ANN", "AZaz09": "AZaz09", "@A[Z`a{z/0:9": "A Z a z 0 9",
                             "!?.": "", "-": "", "b a": "b a", "'x'": "x", "a--b": "a b", "O'Neil-Smith": "O Neil Smith"})

    def test_sorted(self):
        self.forms("sorted", {"": "", "b  a": "a b", "b a b": "a b b", "Lee, Ann": "Ann Lee,", "a B": "B a",
                              "abc ab a": "a ab abc", "z": "z", "ab, ab": "ab ab,", "10 9": "10 9", "b ! ~ A 0": "! 0 A b ~",
                              "b   c  a": "a b c", "- -": "- -"})

    def test_lower_plain(self):
        self.forms("lp", {"LEE,  Ann": "lee ann", "B A": "b a", "": ""}, TWO_STEPS)

    def test_lower_sorted(self):
        self.forms("ls", {"a B": "a b", "LEE,  Ann": "ann lee,", "B, b": "b b,"}, TWO_STEPS)

    def test_plain_sorted(self):
        self.forms("ps", {"a,B": "B a", "LEE,  Ann": "Ann LEE", "(z) !a": "a z"}, TWO_STEPS)

    def test_all_steps(self):
        self.forms("all", {"": "", "Lee, Ann": "ann lee", "ANN  LEE": "ann lee", "!?.,": "", "b-B  a": "a b b",
                           "a.B.c, A": "a a b c", "Zz 9": "9 zz"})

    def test_numbers(self):
        self.forms("n", {"": "", "0": "0", "7": "7", "-7": "-7", "1000000000": "1000000000",
                         "-1000000000": "-1000000000"}, TWO_STEPS)

    def test_no_such_field(self):
        for name in ("", "x", "Name", "name ", "nam", "namee", "field", "a", "n" * 5000, "\x00", "name\n"):
            self.assertEqual(last(("read", EXAMPLE), ("normal", name, "x")), [-3], name)

    def test_no_cell(self):
        for field in ("none", "lower", "plain", "sorted", "all"):
            for cell in NO_TEXT_CELLS:
                self.assertEqual(last(("read", BOOK), ("normal", field, cell)), [-1], (field, cell))
        for cell in NO_NUMBER_CELLS:
            self.assertEqual(last(("read", TWO_STEPS), ("normal", "n", cell)), [-1], cell)

    def test_every_byte_alone(self):
        for byte in range(256):
            is_cell = 33 <= byte <= 126 and byte != ord("|")
            expected = [1, byte] if is_cell else [-1]
            self.assertEqual(last(("normal", as_bytes("a"), [byte])), expected, byte)

    def test_field_ahead_of_cell(self):
        self.assertEqual(last(("read", BOOK), ("normal", "x", " ")), [-3])

    def test_changes_nothing(self):
        self.assertEqual(last(("read", EXAMPLE), ("normal", "name", "X y"), ("show",)), text(EXAMPLE))


class Same(unittest.TestCase):
    def same(self, field, one, other, expected, book=BOOK):
        for pair in ((one, other), (other, one)):
            answer = last(("read", book), ("same", field, pair[0], pair[1]))
            self.assertEqual(answer, [expected], (field, pair))
            self.assertIs(answer[0].__class__, int)

    def test_no_steps(self):
        self.same("none", "a", "a", 1)
        self.same("none", "a", "A", 0)
        self.same("none", "a b", "a  b", 0)
        self.same("none", "ab", "abc", 0)

    def test_each_step_alone(self):
        self.same("lower", "a B", "A b", 1)
        self.same("lower", "a b", "a  b", 0)
        self.same("lower", "a b", "b a", 0)
        self.same("plain", "a,b", "(a) - b", 1)
        self.same("plain", "a b", "A b", 0)
        self.same("plain", "a b", "b a", 0)
        self.same("sorted", "a  b", "b a", 1)
        self.same("sorted", "a b", "A b", 0)
        self.same("sorted", "a, b", "b a", 0)

    def test_all_steps(self):
        self.same("all", "Lee, Ann", "ANN  LEE", 1)
        self.same("all", "a a b", "a b b", 0)
        self.same("all", "a a", "a", 0)
        self.same("all", "ab", "a b", 0)
        self.same("all", "B.b a", "a b B", 1)

    def test_missing_and_signs_alone(self):
        self.same("none", "", "", 1)
        self.same("none", "", "-", 0)
        self.same("plain", "", "-", 1)
        self.same("all", "?!", ".", 1)
        self.same("sorted", "", "-", 0)

    def test_numbers(self):
        self.same("n", "7", "7", 1, TWO_STEPS)
        self.same("n", "7", "-7", 0, TWO_STEPS)
        self.same("n", "", "", 1, TWO_STEPS)
        self.same("n", "", "0", 0, TWO_STEPS)

    def test_no_cell_on_either_side(self):
        self.same("n", "7", "07", -1, TWO_STEPS)
        self.same("n", "07", "07", -1, TWO_STEPS)
        self.same("n", "", "-0", -1, TWO_STEPS)
        self.same("all", "a", "a ", -1)
        self.same("all", "a", "a|", -1)
        self.same("all", "|", "|", -1)
        self.same("all", "x" * 24, "x" * 25, -1)

    def test_no_such_field(self):
        self.same("x", "a", "a", -3)
        self.same("", "a", "b", -3)

    def test_field_ahead_of_cell(self):
        self.same("x", " ", "|", -3)

    def test_changes_nothing(self):
        self.assertEqual(last(("read", EXAMPLE), ("same", "name", "X y", "x"), ("show",)), text(EXAMPLE))


if __name__ == "__main__":
    unittest.main()
