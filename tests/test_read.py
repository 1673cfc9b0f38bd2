"""Promise 1: read."""

import unittest

from tests.helper import EXAMPLE, NEW, as_bytes, last, lines, read_of, text, told

FIELDS = ["field f%d num" % k for k in range(1, 8)]
SOURCES = ["source s%d" % k for k in range(1, 9)]


class Taken(unittest.TestCase):
    """Texts without a fault."""

    def taken(self, whole, counts):
        answered = told(("read", whole), ("show",))
        self.assertEqual(answered, [[0] + counts, text(whole)])

    def test_one_field(self):
        self.taken(lines("field a text"), [1, 0, 0])
        self.taken(lines("field a num"), [1, 0, 0])

    def test_fields_called_like_words(self):
        self.taken(lines("field num num", "field text text", "field field text lower", "source source"), [3, 1, 0])

    def test_field_and_source_may_share_a_name(self):
        self.taken(lines("field a num", "source a", "1: 5"), [1, 1, 1])

    def test_every_choice_of_steps(self):
        for steps in ("", " lower", " plain", " sorted", " lower plain", " lower sorted", " plain sorted",
                      " lower plain sorted"):
            self.taken(lines("field a text" + steps), [1, 0, 0])

    def test_names(self):
        for name in ("a", "z", "a0", "z9", "abcdefghijkl", "a12345678901"):
            self.taken(lines("field " + name + " num", "source " + name), [1, 1, 0])

    def test_five_fields(self):
        self.taken(lines(*FIELDS[:5]), [5, 0, 0])

    def test_six_sources(self):
        self.taken(lines("field a num", *SOURCES[:6]), [1, 6, 0])

    def test_24_rows_in_one_source(self):
        self.taken(lines("field a num", "source x", *["%d: 1" % k for k in range(1, 25)]), [1, 1, 24])

    def test_24_rows_in_several_sources(self):
        rows = ["%d: 1" % k for k in range(1, 13)]
        self.taken(lines("field a num", "source x", *rows, "source y", "source z", *rows), [1, 3, 24])

    def test_row_numbers(self):
        self.taken(lines("field a num", "source x", "1: 1", "2: 1", "10: 1", "999: 1", "source y", "1: 1"), [1, 2, 5])

    def test_cells_of_texts(self):
        for cell in ("", "x", "x" * 24, "a  b", "~", "!", ": :", "1: 2", "field a num", "-", "\"%\\"):
            self.taken(lines("field a text", "source x", "1: " + cell), [1, 1, 1])

    def test_cells_of_numbers(self):
        for cell in ("", "0", "7", "-7", "10", "1000000000", "-1000000000", "999999999", "-999999999"):
            self.taken(lines("field a num", "source x", "1: " + cell), [1, 1, 1])

    def test_missing_cells(self):
        self.taken(lines("field a text", "field b num", "field c text", "source x",
                         "1:  |  | ", "2: a |  | ", "3:  | 1 | ", "4:  |  | c"), [3, 1, 4])

    def test_another_book_takes_the_place_of_the_first(self):
        answered = told(("read", EXAMPLE), ("read", lines("field z num")), ("show",), ("row", 2, "a"))
        self.assertEqual(answered, [[0, 2, 2, 3], [0, 1, 0, 0], text("field z num\n"), [-4]])


class Ends(unittest.TestCase):
    """Reason 1, and how a text falls into lines."""

    def test_not_ended(self):
        self.assertEqual(last(("read", "field a num")), [1, 1])
        self.assertEqual(last(("read", "field a num\nsource x")), [2, 1])
        self.assertEqual(last(("read", "field a num\nx")), [2, 1])

    def test_not_ended_behind_an_earlier_fault(self):
        self.assertEqual(last(("read", "field a\nsource x")), [1, 2])

    def test_bytes_that_are_no_signs(self):
        for byte in list(range(10)) + list(range(11, 32)) + list(range(127, 256)):
            whole = as_bytes("field a text\nsource x\n1: a") + [byte] + as_bytes("b\n")
            self.assertEqual(last(("read", whole)), [3, 1], byte)

    def test_first_and_last_sign(self):
        self.assertEqual(read_of("field a text", "source x", "1: a b~"), [0, 1, 1, 1])

    def test_byte_13_before_the_end(self):
        self.assertEqual(last(("read", "field a text\r\n")), [1, 1])

    def test_no_sign_in_a_line_without_shape(self):
        self.assertEqual(last(("read", [7, 10])), [1, 1])

    def test_empty_line(self):
        self.assertEqual(last(("read", "\n")), [1, 2])
        self.assertEqual(last(("read", "field a num\n\n")), [2, 2])

    def test_empty_text(self):
        self.assertEqual(last(("read", "")), [1, 8])


class Shapes(unittest.TestCase):
    """Reason 2."""

    def no_shape(self, *wrong):
        for line in wrong:
            self.assertEqual(read_of("field a num", line), [2, 2], line)

    def test_other_words(self):
        self.no_shape(" ", "x", "Field b num", "fields b num", "sources x", "Source x", "#", "|", ":", " | ")

    def test_field_lines(self):
        self.no_shape("field", "field ", "field b", "field b ", "field  num", "field b num ", " field b num",
                      "field  b num", "field b  num", "field b numb", "field b num lower", "field b Num",
                      "field b text ", "field b texts", "field b text  lower", "field b text lower ", "fieldb num",
                      "field num", "field text", "field b num num", "field b text num", "field b text text")

    def test_steps(self):
        self.no_shape("field b text plain lower", "field b text sorted lower", "field b text sorted plain",
                      "field b text lower lower", "field b text plain plain", "field b text lower sorted plain",
                      "field b text sorted plain lower", "field b text upper", "field b text lower plain sorted lower",
                      "field b text lowerplain", "field b text Lower", "field b lower")

    def test_names(self):
        for name in ("", "A", "aB", "1", "1a", "a-b", "a_b", "a b", "abcdefghijklm", " a", "a ", "{", "`", "a{", "a`",
                     "a/", "a:"):
            self.no_shape("field " + name + " num", "source " + name)

    def test_source_lines(self):
        self.no_shape("source", "sourcex", "source  x", "source x y", "xsource x")

    def test_row_numbers(self):
        self.no_shape("0: 1", "1000: 1", "01: 1", "001: 1", "00: 1", "-1: 1", "-0: 1", "+1: 1", ": 1", "a: 1",
                      "1a: 1", " 1: 1", "1 : 1", "9" * 4000 + ": 1", "1|2: 1", "0999: 1", "/: 1", "1;: 1")

    def test_behind_the_number(self):
        self.no_shape("1", "1:", "1:1", "1 1", "1;1", "1:|", "1. 1")

    def test_bars(self):
        self.no_shape("1: |", "1: | 2", "1: 1|2", "1: 1 |2", "1: 1| 2", "1: 1 |", "1: 1 | | 2", "1: 1 || 2",
                      "1: 1 | 2 |", "1: | | ", "1: 1 | 2|3")

    def test_comes_ahead_of_the_place(self):
        self.assertEqual(read_of("source X"), [1, 2])
        self.assertEqual(read_of("0: 1"), [1, 2])


class Places(unittest.TestCase):
    """Reasons 3, 4, 5 and 7."""

    def test_field_behind_a_source(self):
        self.assertEqual(read_of("field a num", "source x", "field b num"), [3, 3])
        self.assertEqual(read_of("field a num", "source x", "1: 1", "field b num"), [4, 3])

    def test_sixth_field(self):
        self.assertEqual(read_of(*FIELDS[:6]), [6, 3])

    def test_field_with_a_name_that_is_there(self):
        self.assertEqual(read_of("field a num", "field a num"), [2, 3])
        self.assertEqual(read_of("field a num", "field b num", "field a text lower"), [3, 3])

    def test_source_without_fields(self):
        self.assertEqual(read_of("source x"), [1, 4])

    def test_seventh_source(self):
        self.assertEqual(read_of("field a num", *SOURCES[:7]), [8, 4])

    def test_source_with_a_name_that_is_there(self):
        self.assertEqual(read_of("field a num", "source x", "source x"), [3, 4])
        self.assertEqual(read_of("field a num", "source x", "1: 1", "source y", "source x"), [5, 4])

    def test_row_without_a_source(self):
        self.assertEqual(read_of("1: 1"), [1, 5])
        self.assertEqual(read_of("field a num", "1: 1"), [2, 5])

    def test_row_number_that_does_not_rise(self):
        self.assertEqual(read_of("field a num", "source x", "2: 1", "2: 1"), [4, 5])
        self.assertEqual(read_of("field a num", "source x", "2: 1", "1: 1"), [4, 5])
        self.assertEqual(read_of("field a num", "source x", "10: 1", "9: 1"), [4, 5])

    def test_row_numbers_begin_anew_in_each_source(self):
        self.assertEqual(read_of("field a num", "source x", "9: 1", "source y", "2: 1", "2: 1"), [6, 5])

    def test_25th_row(self):
        rows = ["%d: 1" % k for k in range(1, 26)]
        self.assertEqual(read_of("field a num", "source x", *rows), [27, 7])
        self.assertEqual(read_of("field a num", "source x", *rows[:20], "source y", *rows[:5]), [28, 7])


class Cells(unittest.TestCase):
    """Reason 6."""

    def no_cells(self, field, *wrong):
        for cell in wrong:
            self.assertEqual(read_of("field a " + field, "source x", "1: " + cell), [3, 6], cell)

    def test_how_many(self):
        self.no_cells("num", "1 | 2", " | ", "1 |  | ")
        for row in ("1: 1", "1: ", "1: 1 | 2 | 3", "1: 1 | 2 | "):
            self.assertEqual(read_of("field a num", "field b num", "source x", row), [4, 6], row)

    def test_cells_of_texts(self):
        self.no_cells("text", " ", "  ", " a", "a ", "x" * 25, "x" * 4000)
        for row in ("1: a  | b", "1:  a | b", "1: a |  b", "1: a | b ", "1:   | b", "1: a |  ", "1: " + "x" * 25 + " | b"):
            self.assertEqual(read_of("field a text", "field b text", "source x", row), [4, 6], row)

    def test_cells_of_numbers(self):
        self.no_cells("num", " ", "a", "-", "--1", "-0", "+1", "01", "00", "-01", "1.0", "1 2", " 1", "1 ", "1-", "1e3",
                      "1000000001", "-1000000001", "10000000000", "-10000000000", "0000000001", "9" * 4900, "/", ":")

    def test_each_cell_is_of_its_own_field(self):
        self.assertEqual(read_of("field a num", "field b text", "source x", "1: 1 | b"), [0, 2, 1, 1])
        self.assertEqual(read_of("field a num", "field b text", "source x", "1: b | 1"), [4, 6])
        self.assertEqual(read_of("field a text", "field b num", "source x", "1: 1 | b"), [4, 6])


class Order(unittest.TestCase):
    """The first line counts, and of its reasons the first."""

    def test_first_line(self):
        self.assertEqual(read_of("field a num", "source x", "1: z", "source x", "nothing"), [3, 6])
        self.assertEqual(read_of("field a num", "nothing", "field a num", "\t"), [2, 2])

    def test_place_ahead_of_cells(self):
        self.assertEqual(read_of("field a num", "1: z"), [2, 5])
        self.assertEqual(read_of("field a num", "source x", "1: 1", "1: z"), [4, 5])

    def test_reasons_of_the_25th_row(self):
        rows = ["%d: 1" % k for k in range(1, 25)]
        for row, reason in (("25: 1", 7), ("25: z", 6), ("25: 1 | 1", 6), ("24: 1", 5), ("24: z", 5), ("25:z", 2),
                            ("25: \t", 1)):
            self.assertEqual(read_of("field a num", "source x", *rows, row), [27, reason], row)

    def test_bytes_ahead_of_all(self):
        self.assertEqual(read_of("source \t"), [1, 1])
        self.assertEqual(read_of("field a num", "1: z\t"), [2, 1])

    def test_last_line_not_ended_ahead_of_all(self):
        self.assertEqual(last(("read", "source x")), [1, 1])
        self.assertEqual(last(("read", "field a num\n1: z")), [2, 1])


class AfterFaults(unittest.TestCase):
    FAULTS = [
        (lines("field b num") + "x", [2, 1]),
        (lines("field b num", "source z", "nothing"), [3, 2]),
        (lines("field b num", "source z", "field c num"), [3, 3]),
        (lines("field b num", "source z", "source z"), [3, 4]),
        (lines("field b num", "source z", "1: 1", "1: 1"), [4, 5]),
        (lines("field b num", "source z", "1: 1", "2: x"), [4, 6]),
        (lines("field b num", "source z", *["%d: 1" % k for k in range(1, 26)]), [27, 7]),
        ("", [1, 8]),
    ]

    def test_new_object_stays(self):
        for whole, fault in self.FAULTS:
            self.assertEqual(told(("read", whole), ("show",)), [fault, text(NEW)])

    def test_read_book_stays(self):
        for whole, fault in self.FAULTS:
            answered = told(("read", EXAMPLE), ("read", whole), ("show",), ("size",))
            self.assertEqual(answered, [[0, 2, 2, 3], fault, text(EXAMPLE), [2, 2, 3, 5]])


if __name__ == "__main__":
    unittest.main()
