"""Promise 9: drop."""

import unittest

from tests.helper import EXAMPLE, FAR, NEW, after, last, lines, text, texts, told

BOOK = lines("field a num", "source e", "source x", "3: 1", "5: 2", "9: 3", "source y", "5: 4", "source z", "1: 5", "5: 6")


class Drop(unittest.TestCase):
    def dropped(self, number, source, gone):
        self.assertEqual(after(BOOK, ("drop", number, source)), [([5], BOOK.replace(gone, ""))], (number, source))

    def test_first(self):
        self.dropped(3, "x", "3: 1\n")
        self.dropped(1, "z", "1: 5\n")

    def test_middle(self):
        self.dropped(5, "x", "5: 2\n")

    def test_last(self):
        self.dropped(9, "x", "9: 3\n")
        self.dropped(5, "z", "5: 6\n")

    def test_only(self):
        self.dropped(5, "y", "5: 4\n")

    def test_only_row_of_the_book(self):
        book = lines("field a text", "source x", "7: ")
        self.assertEqual(after(book, ("drop", 7, "x")), [([0], lines("field a text", "source x"))])

    def test_all_of_them(self):
        known = [(5, "y"), (5, "x"), (5, "z"), (9, "x"), (3, "x"), (1, "z")]
        answered = after(BOOK, *[("drop", number, source) for number, source in known])
        self.assertEqual([answer for answer, shown in answered], [[5], [4], [3], [2], [1], [0]])
        self.assertEqual(answered[5][1], lines("field a num", "source e", "source x", "source y", "source z"))

    def test_rows_that_stay(self):
        answered = told(("read", BOOK), ("drop", 5, "x"), ("row", 3, "x"), ("row", 5, "x"), ("row", 9, "x"), ("row", 5, "y"),
                        ("nth", 0), ("nth", 1), ("nth", 2), ("nth", 4), ("nth", 5), ("size",))
        self.assertEqual(answered[1:], [[5], texts("1"), [-4], texts("3"), texts("4"), [1, 3] + texts("1"),
                                        [1, 9] + texts("3"), [2, 5] + texts("4"), [3, 5] + texts("6"), [-2], [1, 4, 5, 5]])

    def test_twice(self):
        answered = after(BOOK, ("drop", 5, "x"), ("drop", 5, "x"))
        self.assertEqual(answered, [([5], BOOK.replace("5: 2\n", "")), ([-4], BOOK.replace("5: 2\n", ""))])

    def test_put_again(self):
        answered = after(BOOK, ("drop", 5, "x"), ("put", "x", "5: 2"))
        self.assertEqual(answered[1], ([1], BOOK))

    def test_room_for_another(self):
        full = lines("field a num", "source x", *["%d: 1" % k for k in range(1, 25)])
        answered = told(("read", full), ("put", "x", "30: 1"), ("drop", 12, "x"), ("put", "x", "30: 1"), ("put", "x", "12: 1"))
        self.assertEqual(answered[1:], [[-6], [23], [1], [-6]])


class Refused(unittest.TestCase):
    def refused(self, number, source):
        self.assertEqual(after(EXAMPLE, ("drop", number, source)), [([-4], EXAMPLE)], (number, source))

    def test_no_such_source(self):
        for source in ("", "c", "A", "a ", "aa", "name", "a" * 5000, "\xff", "a\n"):
            self.refused(2, source)

    def test_no_such_row(self):
        for number in (-FAR, -1000, -5, -2, -1, 0, 1, 3, 4, 6, 999, 1000, FAR):
            self.refused(number, "a")

    def test_row_of_another_source(self):
        self.refused(2, "b")
        self.refused(1, "a")

    def test_source_without_rows(self):
        self.assertEqual(last(("read", BOOK), ("drop", 5, "e")), [-4])

    def test_new_object(self):
        self.assertEqual(told(("drop", 1, "a"), ("show",)), [[-4], text(NEW)])


if __name__ == "__main__":
    unittest.main()
