"""Promise 2: show."""

import unittest

from tests.helper import EXAMPLE, NEW, last, lines, text, told


class Show(unittest.TestCase):
    def test_new_object(self):
        self.assertEqual(last(("show",)), text("field a text\n"))

    def test_after_read(self):
        self.assertEqual(last(("read", EXAMPLE), ("show",)), text(EXAMPLE))

    def test_cells_are_shown_as_they_were_written(self):
        whole = lines("field a text lower plain sorted", "source x", "7: Z,  a!")
        self.assertEqual(last(("read", whole), ("show",)), text(whole))

    def test_sources_without_rows(self):
        whole = lines("field a num", "field b text plain", "source z", "source a", "999:  | ", "source m")
        self.assertEqual(last(("read", whole), ("show",)), text(whole))

    def test_after_set(self):
        answered = told(("read", EXAMPLE), ("set", 5, "a", "born", "-3"), ("show",),
                        ("set", 2, "a", "name", ""), ("show",))
        self.assertEqual(answered[2], text(EXAMPLE.replace("5: Bo | ", "5: Bo | -3")))
        self.assertEqual(answered[4], text(EXAMPLE.replace("5: Bo | ", "5: Bo | -3").replace("Lee, Ann", "")))

    def test_changes_nothing(self):
        self.assertEqual(told(("show",), ("show",)), [text(NEW), text(NEW)])


if __name__ == "__main__":
    unittest.main()
