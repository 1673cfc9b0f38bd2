"""The document's example, call by call, in one list."""

import unittest

from tests.helper import EXAMPLE, last, lines, rows, text, texts, told


class Example(unittest.TestCase):
    def test_read(self):
        self.assertEqual(last(("read", EXAMPLE)), [0, 2, 2, 3])

    def test_whole(self):
        answered = told(
            ("read", EXAMPLE),
            ("normal", "name", "Lee, Ann"),
            ("alike", 2, "a", "name"),
            ("missing", "born"),
            ("put", "a", "3: Cy | -7"),
            ("nth", 1),
            ("set", 1, "b", "born", "1980"),
            ("same", "born", "7", "07"),
            ("withdraw", "a"),
            ("show",),
            ("read", lines("field a num", "source x", "4: 1 | 2")),
        )
        shown = lines("field name text lower plain sorted", "field born num", "source b", "1: ANN  LEE | 1980")
        self.assertEqual(answered, [
            [0, 2, 2, 3],
            text("ann lee"),
            [2, 0, 2, 1, 1],
            [1, 0, 5],
            [1],
            [0, 3] + texts("Cy", "-7"),
            [1],
            [-1],
            [3],
            text(shown),
            [3, 6],
        ])
        self.assertEqual(answered[2:4], [rows((0, 2), (1, 1)), rows((0, 5))])

    def test_last_read_changes_nothing(self):
        answered = told(("read", EXAMPLE), ("withdraw", "a"), ("show",),
                        ("read", lines("field a num", "source x", "4: 1 | 2")), ("show",))
        self.assertEqual(answered[2], answered[4])


if __name__ == "__main__":
    unittest.main()
