"""Promise 14: size."""

import unittest

from tests.helper import EXAMPLE, last, lines, text, told


class Size(unittest.TestCase):
    def sizes(self, call, answer, size):
        self.assertEqual(told(("read", EXAMPLE), call, ("size",))[1:], [answer, size], call)

    def test_new_object(self):
        self.assertEqual(last(("size",)), [1, 0, 0, 0])

    def test_after_read(self):
        self.assertEqual(last(("read", EXAMPLE), ("size",)), [2, 2, 3, 5])

    def test_missing_cells(self):
        book = lines("field a num", "field b text", "field c text", "source x", "1:  |  | ", "2: 0 |  | -", "source y",
                     "source z", "7:  | a | ")
        self.assertEqual(last(("read", book), ("size",)), [3, 3, 3, 3])

    def test_cells_with_an_empty_normal_form_are_not_missing(self):
        book = lines("field a text plain", "source x", "1: -", "2: ")
        self.assertEqual(last(("read", book), ("size",)), [1, 1, 2, 1])

    def test_fullest_book(self):
        fields = ["field f%d num" % k for k in range(5)]
        sources = []
        for k in range(6):
            sources.append("source s%d" % k)
            sources.extend("%d: 1 | 2 | 3 | 4 | 5" % number for number in (1, 2, 3, 4))
        self.assertEqual(last(("read", lines(*fields, *sources)), ("size",)), [5, 6, 24, 120])

    def test_after_set(self):
        answered = told(("read", EXAMPLE), ("set", 5, "a", "born", "0"), ("size",), ("set", 2, "a", "name", ""), ("size",),
                        ("set", 2, "a", "born", ""), ("size",), ("set", 2, "a", "born", "x"), ("size",))
        self.assertEqual(answered[2::2], [[2, 2, 3, 6], [2, 2, 3, 5], [2, 2, 3, 4], [2, 2, 3, 4]])

    def test_after_put(self):
        self.sizes(("put", "a", "3: Cy | -7"), [1], [2, 2, 4, 7])
        self.sizes(("put", "a", "3:  | "), [1], [2, 2, 4, 5])
        self.sizes(("put", "a", "5: Bo | 0"), [0], [2, 2, 3, 6])
        self.sizes(("put", "a", "2:  | "), [0], [2, 2, 3, 3])
        self.sizes(("put", "a", "3: Cy"), [-1], [2, 2, 3, 5])

    def test_after_drop(self):
        self.sizes(("drop", 2, "a"), [2], [2, 2, 2, 3])
        self.sizes(("drop", 5, "a"), [2], [2, 2, 2, 4])
        self.sizes(("drop", 1, "b"), [2], [2, 2, 2, 3])
        self.sizes(("drop", 2, "b"), [-4], [2, 2, 3, 5])

    def test_after_source(self):
        self.sizes(("source", "c"), [3], [2, 3, 3, 5])
        self.sizes(("source", "a"), [-5], [2, 2, 3, 5])

    def test_after_withdraw(self):
        self.sizes(("withdraw", "a"), [2], [2, 1, 1, 2])
        self.sizes(("withdraw", "b"), [1], [2, 1, 2, 3])
        self.sizes(("withdraw", "c"), [-4], [2, 2, 3, 5])

    def test_after_questions(self):
        self.sizes(("size",), [2, 2, 3, 5], [2, 2, 3, 5])
        self.sizes(("missing", "born"), [1, 0, 5], [2, 2, 3, 5])
        self.sizes(("alike", 5, "a", "name"), [1, 0, 5], [2, 2, 3, 5])
        self.sizes(("same", "name", "a", "b"), [0], [2, 2, 3, 5])
        self.sizes(("normal", "name", ""), [0], [2, 2, 3, 5])
        self.sizes(("nth", 3), [-2], [2, 2, 3, 5])
        self.sizes(("row", 5, "a"), [2, 2, 66, 111, 0], [2, 2, 3, 5])
        self.sizes(("show",), text(EXAMPLE), [2, 2, 3, 5])

    def test_after_all_is_withdrawn(self):
        self.assertEqual(last(("read", EXAMPLE), ("withdraw", "a"), ("withdraw", "b"), ("size",)), [2, 0, 0, 0])

    def test_after_a_fault(self):
        self.assertEqual(last(("read", EXAMPLE), ("read", ""), ("size",)), [2, 2, 3, 5])


if __name__ == "__main__":
    unittest.main()
