"""Promises 12 and 13: alike and missing."""

import unittest

from tests.helper import EXAMPLE, FAR, last, lines, rows, text, told

CELLS = ("Lee, Ann", "lee, ann", "Lee Ann", "Ann Lee,", "Lee,  Ann", "ANN LEE", "-", "")


def book_of(steps, cells=CELLS):
    """A book with one field, whose rows are 1, 2 .. in one source."""
    return lines("field f text" + steps, "source x", *["%d: %s" % pair for pair in enumerate(cells, start=1)])


class Alike(unittest.TestCase):
    def groups(self, steps, *expected):
        """Each row is alike to those of its group, and these are all the rows."""
        self.assertEqual(sorted(sum(expected, ())), list(range(1, 9)))
        for group in expected:
            answer = rows(*[(0, number) for number in group])
            for number in group:
                self.assertEqual(last(("read", book_of(steps)), ("alike", number, "x", "f")), answer, (steps, number))

    def test_no_steps(self):
        self.groups("", (1,), (2,), (3,), (4,), (5,), (6,), (7,), (8,))

    def test_lower(self):
        self.groups(" lower", (1, 2), (3,), (4,), (5,), (6,), (7,), (8,))

    def test_plain(self):
        self.groups(" plain", (1, 3, 5), (2,), (4,), (6,), (7, 8))

    def test_sorted(self):
        self.groups(" sorted", (1, 4, 5), (2,), (3,), (6,), (7,), (8,))

    def test_lower_plain(self):
        self.groups(" lower plain", (1, 2, 3, 5), (4, 6), (7, 8))

    def test_lower_sorted(self):
        self.groups(" lower sorted", (1, 2, 4, 5), (3, 6), (7,), (8,))

    def test_plain_sorted(self):
        self.groups(" plain sorted", (1, 3, 4, 5), (2,), (6,), (7, 8))

    def test_all_steps(self):
        self.groups(" lower plain sorted", (1, 2, 3, 4, 5, 6), (7, 8))

    def test_cells_that_are_the_same(self):
        book = book_of("", ("a", "b", "a", "A", "a"))
        self.assertEqual(last(("read", book), ("alike", 3, "x", "f")), rows((0, 1), (0, 3), (0, 5)))

    def test_words_that_stand_twice(self):
        book = book_of(" sorted", ("a b", "b a b", "a b b", "a a b", "ab"))
        self.assertEqual(last(("read", book), ("alike", 2, "x", "f")), rows((0, 2), (0, 3)))

    def test_numbers(self):
        book = lines("field n num", "source x", "1: 7", "2: -7", "3: ", "4: 7", "5: 0", "6: ", "7: 70", "source y", "9: 7")
        seven = rows((0, 1), (0, 4), (1, 9))
        expected = {1: seven, 2: rows((0, 2)), 3: rows((0, 3), (0, 6)), 4: seven, 5: rows((0, 5)), 7: rows((0, 7))}
        for number in expected:
            self.assertEqual(last(("read", book), ("alike", number, "x", "n")), expected[number], number)
        self.assertEqual(last(("read", book), ("alike", 9, "y", "n")), seven)

    def test_missing_cells(self):
        book = book_of("", ("", "a", "", "-", ""))
        self.assertEqual(last(("read", book), ("alike", 3, "x", "f")), rows((0, 1), (0, 3), (0, 5)))

    def test_several_sources_in_order(self):
        book = lines("field f text lower", "source z", "5: A", "source none", "source y", "2: a", "3: b", "9: A", "source end",
                     "source a", "1: a")
        together = rows((0, 5), (2, 2), (2, 9), (4, 1))
        for number, source in ((5, "z"), (2, "y"), (9, "y"), (1, "a")):
            self.assertEqual(last(("read", book), ("alike", number, source, "f")), together)
        self.assertEqual(last(("read", book), ("alike", 3, "y", "f")), rows((2, 3)))

    def test_only_that_field_counts(self):
        book = lines("field a num", "field b text lower", "field c text", "source x", "1: 1 | q | R", "2: 1 | Q | r",
                     "3: 2 | q | R")
        answered = told(("read", book), ("alike", 1, "x", "a"), ("alike", 1, "x", "b"), ("alike", 1, "x", "c"))
        self.assertEqual(answered[1:], [rows((0, 1), (0, 2)), rows((0, 1), (0, 2), (0, 3)), rows((0, 1), (0, 3))])

    def test_24_rows(self):
        book = book_of("", ["q"] * 24)
        self.assertEqual(last(("read", book), ("alike", 9, "x", "f")), rows(*[(0, k) for k in range(1, 25)]))

    def test_after_changes(self):
        answered = told(("read", EXAMPLE), ("set", 5, "a", "name", "lee ANN"), ("alike", 5, "a", "name"),
                        ("put", "b", "2: Ann-Lee | "), ("alike", 5, "a", "name"), ("drop", 2, "a"), ("alike", 5, "a", "name"),
                        ("withdraw", "a"), ("alike", 1, "b", "name"), ("alike", 5, "a", "name"))
        self.assertEqual(answered[2::2], [rows((0, 2), (0, 5), (1, 1)), rows((0, 2), (0, 5), (1, 1), (1, 2)),
                                          rows((0, 5), (1, 1), (1, 2)), rows((0, 1), (0, 2))])
        self.assertEqual(answered[-1], [-4])

    def refused(self, number, source, field, refusal):
        answered = told(("read", EXAMPLE), ("alike", number, source, field), ("show",))
        self.assertEqual(answered[1:], [[refusal], text(EXAMPLE)], (number, source, field))

    def test_no_row(self):
        for number in (-FAR, -2, 0, 1, 3, 999, 1000, FAR):
            self.refused(number, "a", "name", -4)
        for source in ("", "c", "A", "name", "a" * 5000):
            self.refused(2, source, "name", -4)
        self.refused(2, "b", "name", -4)
        self.assertEqual(last(("alike", 1, "a", "a")), [-4])

    def test_no_field(self):
        for field in ("", "x", "a", "Name", "name ", "n" * 5000, "\xff"):
            self.refused(2, "a", field, -3)

    def test_row_ahead_of_field(self):
        self.refused(9, "a", "x", -4)
        self.refused(2, "c", "x", -4)

    def test_changes_nothing(self):
        self.assertEqual(last(("read", EXAMPLE), ("alike", 2, "a", "name"), ("show",)), text(EXAMPLE))


class Missing(unittest.TestCase):
    BOOK = lines("field a num", "field b text plain", "field c text", "source x", "1: 0 |  | ", "4:  | - | ", "source none",
                 "source y", "1: 3 |  | ", "2:  | b | ")

    def test_some_and_all(self):
        answered = told(("read", self.BOOK), ("missing", "a"), ("missing", "b"), ("missing", "c"))
        self.assertEqual(answered[1:], [rows((0, 4), (2, 2)), rows((0, 1), (2, 1)), rows((0, 1), (0, 4), (2, 1), (2, 2))])

    def test_none(self):
        self.assertEqual(last(("read", EXAMPLE), ("missing", "name")), [0])

    def test_zero_and_an_empty_normal_form_are_not_missing(self):
        self.assertEqual(last(("read", lines("field a num", "source x", "1: 0")), ("missing", "a")), [0])
        self.assertEqual(last(("read", lines("field a text plain", "source x", "1: -")), ("missing", "a")), [0])

    def test_without_rows(self):
        self.assertEqual(last(("missing", "a")), [0])
        self.assertEqual(last(("read", lines("field a num", "source x")), ("missing", "a")), [0])

    def test_24_rows(self):
        book = lines("field a num", "source x", *["%d: " % k for k in range(1, 25)])
        self.assertEqual(last(("read", book), ("missing", "a")), rows(*[(0, k) for k in range(1, 25)]))

    def test_after_set(self):
        answered = told(("read", EXAMPLE), ("set", 5, "a", "born", "3"), ("missing", "born"), ("set", 1, "b", "born", ""),
                        ("missing", "born"), ("set", 5, "a", "born", ""), ("missing", "born"))
        self.assertEqual(answered[2::2], [[0], rows((1, 1)), rows((0, 5), (1, 1))])

    def test_after_other_changes(self):
        answered = told(("read", EXAMPLE), ("put", "a", "3:  | "), ("missing", "born"), ("put", "a", "5: Bo | 1"),
                        ("missing", "born"), ("put", "b", "1: x | "), ("missing", "born"), ("drop", 3, "a"),
                        ("missing", "born"), ("put", "a", "9: y | "), ("withdraw", "a"), ("missing", "born"))
        self.assertEqual(answered[2:9:2], [rows((0, 3), (0, 5)), rows((0, 3)), rows((0, 3), (1, 1)), rows((1, 1))])
        self.assertEqual(answered[-1], rows((0, 1)))

    def test_no_field(self):
        for field in ("", "x", "a", "Born", "born ", "b" * 5000, "\xff"):
            answered = told(("read", EXAMPLE), ("missing", field), ("show",))
            self.assertEqual(answered[1:], [[-3], text(EXAMPLE)], field)

    def test_changes_nothing(self):
        self.assertEqual(last(("read", EXAMPLE), ("missing", "born"), ("show",)), text(EXAMPLE))


if __name__ == "__main__":
    unittest.main()
