"""The document's example, as far as the built calls can show it."""

import unittest

from tests.helper import EXAMPLE, lines, last, text, told


class Example(unittest.TestCase):
    def test_read(self):
        self.assertEqual(last(("read", EXAMPLE)), [0, 2, 2, 3])

    def test_calls_behind_it(self):
        answered = told(
            ("read", EXAMPLE),
            ("normal", "name", "Lee, Ann"),
            ("set", 1, "b", "born", "1980"),
            ("same", "born", "7", "07"),
            ("show",),
            ("read", lines("field a num", "source x", "4: 1 | 2")),
            ("show",),
        )
        shown = text(EXAMPLE.replace("1981", "1980"))
        self.assertEqual(answered, [[0, 2, 2, 3], text("ann lee"), [1], [-1], shown, [3, 6], shown])


if __name__ == "__main__":
    unittest.main()
