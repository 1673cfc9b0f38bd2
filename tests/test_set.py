"""Promise 7: set."""

import unittest

from tests.helper import EXAMPLE, FAR, last, lines, text, texts, told


class SetCall(unittest.TestCase):
    def changed(self, call, answer, before, after):
        answered = told(("read", EXAMPLE), call, ("show",))
        self.assertEqual(answered[1:], [[answer], text(EXAMPLE.replace(before, after))], call)
        self.assertIs(answered[1][0].__class__, int)

    def refused(self, call, refusal):
        answered = told(("read", EXAMPLE), call, ("show",))
        self.assertEqual(answered[1:], [[refusal], text(EXAMPLE)], call)

    def test_another_cell(self):
        self.changed(("set", 1, "b", "born", "1980"), 1, "1981", "1980")
        self.changed(("set", 2, "a", "name", "Di"), 1, "Lee, Ann", "Di")
        self.changed(("set", 5, "a", "name", "x" * 24), 1, "Bo", "x" * 24)
        self.changed(("set", 5, "a", "born", "-1000000000"), 1, "5: Bo | ", "5: Bo | -1000000000")

    def test_same_cell(self):
        self.changed(("set", 1, "b", "born", "1981"), 0, "", "")
        self.changed(("set", 2, "a", "name", "Lee, Ann"), 0, "", "")
        self.changed(("set", 5, "a", "born", ""), 0, "", "")

    def test_another_cell_with_the_same_normal_form(self):
        self.changed(("set", 2, "a", "name", "Ann Lee"), 1, "Lee, Ann", "Ann Lee")
        self.changed(("set", 1, "b", "name", "ANN LEE"), 1, "ANN  LEE", "ANN LEE")

    def test_emptied(self):
        self.changed(("set", 1, "b", "name", ""), 1, "ANN  LEE", "")
        self.changed(("set", 1, "b", "born", ""), 1, "1981", "")

    def test_twice_and_back(self):
        answered = told(("read", EXAMPLE), ("set", 5, "a", "born", "3"), ("set", 5, "a", "born", "3"),
                        ("set", 5, "a", "born", ""), ("show",))
        self.assertEqual(answered[1:], [[1], [0], [1], text(EXAMPLE)])

    def test_only_that_cell(self):
        book = lines("field a num", "field b num", "source x", "1: 1 | 1", "2: 1 | 1", "source y", "1: 1 | 1")
        answered = told(("read", book), ("set", 1, "x", "b", "7"), ("row", 1, "x"), ("row", 2, "x"), ("row", 1, "y"))
        self.assertEqual(answered[1:], [[1], texts("1", "7"), texts("1", "1"), texts("1", "1")])

    def test_new_read_forgets_it(self):
        answer = last(("read", EXAMPLE), ("set", 5, "a", "born", "3"), ("read", EXAMPLE), ("show",))
        self.assertEqual(answer, text(EXAMPLE))

    def test_no_row(self):
        for number in (-5, 0, 1, 3, 1000, FAR, -FAR):
            self.refused(("set", number, "a", "name", "x"), -4)
        for source in ("", "c", "A", "name"):
            self.refused(("set", 2, source, "name", "x"), -4)
        self.refused(("set", 2, "b", "name", "x"), -4)

    def test_no_field(self):
        for field in ("", "x", "Name", "a", "name "):
            self.refused(("set", 2, "a", field, "x"), -3)

    def test_no_cell(self):
        for cell in (" ", "x ", " x", "a|b", "x" * 25, "x" * 5000, "\n", "\x1f", "\x7f", "\xff"):
            self.refused(("set", 2, "a", "name", cell), -1)
        for cell in ("x", "07", "-0", "+1", " 1", "1000000001", "-1000000001", "9" * 4900):
            self.refused(("set", 2, "a", "born", cell), -1)

    def test_order_of_refusals(self):
        self.refused(("set", 9, "a", "x", "|"), -4)
        self.refused(("set", 2, "c", "x", "|"), -4)
        self.refused(("set", 9, "a", "name", "|"), -4)
        self.refused(("set", 9, "a", "x", "y"), -4)
        self.refused(("set", 2, "a", "x", "|"), -3)

    def test_new_object(self):
        self.assertEqual(last(("set", 1, "a", "a", "x")), [-4])


if __name__ == "__main__":
    unittest.main()
