"""Promises 5 and 6: row and nth."""

import unittest

from tests.helper import EXAMPLE, FAR, last, lines, text, texts, told

SPARSE = lines("field n num", "field t text lower", "source none", "source z", "3: 1 | A  b", "999:  | ",
               "source between", "source a", "1: -5 | x", "2:  | y", "source end")


class RowCall(unittest.TestCase):
    def test_cells(self):
        self.assertEqual(last(("read", EXAMPLE), ("row", 2, "a")), texts("Lee, Ann", "1980"))
        self.assertEqual(last(("read", EXAMPLE), ("row", 5, "a")), texts("Bo", ""))
        self.assertEqual(last(("read", EXAMPLE), ("row", 1, "b")), texts("ANN  LEE", "1981"))

    def test_missing_cells(self):
        self.assertEqual(last(("read", SPARSE), ("row", 999, "z")), [2, 0, 0])

    def test_one_field(self):
        self.assertEqual(last(("read", lines("field a text", "source x", "4: ")), ("row", 4, "x")), [1, 0])

    def test_after_set(self):
        answer = last(("read", EXAMPLE), ("set", 5, "a", "born", "9"), ("row", 5, "a"))
        self.assertEqual(answer, texts("Bo", "9"))

    def test_no_such_source(self):
        for name in ("", "c", "A", "a ", "aa", "name", "a" * 5000, "\xff"):
            self.assertEqual(last(("read", EXAMPLE), ("row", 2, name)), [-4], name)

    def test_no_such_row(self):
        for number in (-1, 0, 1, 3, 4, 6, 999, 1000, -2, -5, FAR, -FAR):
            self.assertEqual(last(("read", EXAMPLE), ("row", number, "a")), [-4], number)

    def test_row_of_another_source(self):
        self.assertEqual(last(("read", EXAMPLE), ("row", 2, "b")), [-4])

    def test_source_without_rows(self):
        self.assertEqual(last(("read", SPARSE), ("row", 1, "between")), [-4])

    def test_new_object(self):
        self.assertEqual(last(("row", 1, "a")), [-4])

    def test_changes_nothing(self):
        self.assertEqual(last(("read", EXAMPLE), ("row", 2, "a"), ("row", 7, "a"), ("show",)), text(EXAMPLE))


class Nth(unittest.TestCase):
    def test_in_order(self):
        answered = told(("read", EXAMPLE), ("nth", 0), ("nth", 1), ("nth", 2))
        self.assertEqual(answered[1:], [[0, 2] + texts("Lee, Ann", "1980"), [0, 5] + texts("Bo", ""),
                                        [1, 1] + texts("ANN  LEE", "1981")])

    def test_sources_without_rows_count(self):
        answered = told(("read", SPARSE), ("nth", 0), ("nth", 1), ("nth", 2), ("nth", 3))
        self.assertEqual(answered[1:], [[1, 3] + texts("1", "A  b"), [1, 999, 2, 0, 0], [3, 1] + texts("-5", "x"),
                                        [3, 2] + texts("", "y")])

    def test_after_set(self):
        answer = last(("read", EXAMPLE), ("set", 1, "b", "name", "Di"), ("nth", 2))
        self.assertEqual(answer, [1, 1] + texts("Di", "1981"))

    def test_refused(self):
        for k in (-1, -2, -3, 3, 4, FAR, -FAR):
            self.assertEqual(last(("read", EXAMPLE), ("nth", k)), [-2], k)
        for k in (-1, 4, 5):
            self.assertEqual(last(("read", SPARSE), ("nth", k)), [-2], k)

    def test_without_rows(self):
        for k in (-1, 0, 1):
            self.assertEqual(last(("nth", k)), [-2], k)
            self.assertEqual(last(("read", lines("field a num", "source x")), ("nth", k)), [-2], k)

    def test_24_rows(self):
        book = lines("field a num", "source x", *["%d: %d" % (k, k * k) for k in range(1, 25)])
        self.assertEqual(last(("read", book), ("nth", 23)), [0, 24] + texts("576"))
        self.assertEqual(last(("read", book), ("nth", 24)), [-2])

    def test_changes_nothing(self):
        self.assertEqual(last(("read", EXAMPLE), ("nth", 1), ("nth", 7), ("show",)), text(EXAMPLE))


if __name__ == "__main__":
    unittest.main()
