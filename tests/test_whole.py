"""What holds over all calls: refusals change nothing, what is shown can be read, and long lists are answered."""

import unittest

from rowsources.books import answers
from tests.helper import EXAMPLE, NEW, after, as_str, coded, last, lines, rows, text, texts, told

FULLEST_FIELDS = ["field fieldnumber%d text lower plain sorted" % k for k in range(5)]
FULLEST_ROW = " | ".join([sign * 24 for sign in "aBc9~"])
FULLEST_NUMBERS = [996, 997, 998, 999]


def fullest_book():
    """5 fields, 6 sources and 24 rows, all names of 12 bytes and all cells of 24 signs."""
    sources = []
    for k in range(6):
        sources.append("source sourcenumbe%d" % k)
        sources.extend("%d: %s" % (number, FULLEST_ROW) for number in FULLEST_NUMBERS)
    return lines(*FULLEST_FIELDS, *sources)


FULLEST = fullest_book()

# For each call that can be refused, a call for each of its refusals on the example's book.
REFUSED = [
    (("normal", "x", "y"), [-3]),
    (("normal", "name", "|"), [-1]),
    (("same", "x", "y", "y"), [-3]),
    (("same", "born", "1", "01"), [-1]),
    (("row", 2, "c"), [-4]),
    (("row", 3, "a"), [-4]),
    (("nth", 3), [-2]),
    (("nth", -1), [-2]),
    (("set", 2, "c", "name", "x"), [-4]),
    (("set", 3, "a", "name", "x"), [-4]),
    (("set", 2, "a", "x", "x"), [-3]),
    (("set", 2, "a", "born", "x"), [-1]),
    (("put", "c", "3: Cy | 1"), [-4]),
    (("put", "a", "3: Cy | x"), [-1]),
    (("put", "a", "2: Cy"), [-1]),
    (("drop", 2, "c"), [-4]),
    (("drop", 3, "a"), [-4]),
    (("source", "C"), [-1]),
    (("source", "a"), [-5]),
    (("withdraw", "c"), [-4]),
    (("alike", 2, "c", "name"), [-4]),
    (("alike", 2, "a", "x"), [-3]),
    (("missing", "x"), [-3]),
    (("read", EXAMPLE + "1: Cy | 1\n"), [8, 5]),
]

# What tells all that there is of the example's book, and how it tells it.
ASKED = [("show",), ("size",), ("nth", 0), ("nth", 1), ("nth", 2), ("nth", 3), ("row", 5, "a"), ("alike", 2, "a", "name"),
         ("missing", "born"), ("normal", "name", "B a")]

CHANGES = [
    ("read", EXAMPLE),
    ("set", 5, "a", "name", ""),
    ("put", "a", "999:  | "),
    ("put", "a", "1: x: y | -1000000000"),
    ("put", "b", "1: " + "~" * 24 + " | 0"),
    ("source", "c"),
    ("drop", 2, "a"),
    ("put", "c", "7: field a num | 7"),
    ("withdraw", "b"),
    ("source", "b"),
    ("drop", 7, "c"),
    ("set", 999, "a", "born", "1000000000"),
    ("withdraw", "a"),
    ("withdraw", "c"),
    ("withdraw", "b"),
]

QUESTIONS = [("size",), ("alike", 5, "a", "name"), ("missing", "name"), ("nth", 0), ("row", 5, "a"),
             ("normal", "name", "x"), ("same", "name", "x", "y")]


class Refusals(unittest.TestCase):
    def test_everything_stays(self):
        before = told(("read", EXAMPLE), *ASKED)[1:]
        for call, refusal in REFUSED:
            answered = told(("read", EXAMPLE), call, *ASKED)
            self.assertEqual(answered[1], refusal, call)
            self.assertEqual(answered[2:], before, call)

    def test_all_in_one_list(self):
        answered = after(EXAMPLE, *[call for call, refusal in REFUSED])
        self.assertEqual(answered, [(refusal, EXAMPLE) for call, refusal in REFUSED])

    def test_no_room(self):
        answered = after(FULLEST, ("put", "sourcenumbe0", "1: " + FULLEST_ROW), ("source", "c"))
        self.assertEqual(answered, [([-6], FULLEST), ([-6], FULLEST)])

    def test_changes_still_work_behind_them(self):
        refused = [call for call, refusal in REFUSED]
        answered = told(("read", EXAMPLE), *refused, ("put", "a", "3: Cy | 1"), ("drop", 2, "a"), ("source", "c"), ("show",))
        shown = EXAMPLE.replace("2: Lee, Ann | 1980\n", "3: Cy | 1\n") + lines("source c")
        self.assertEqual(answered[-4:], [[1], [3], [3], text(shown)])


class ShownAndRead(unittest.TestCase):
    def read_again(self, calls):
        """The text that is shown behind the calls, after it was read in the same object and shown again."""
        answered = told(*calls, ("size",), ("show",))
        shown = as_str(answered[-1])
        again = told(*calls, ("read", shown), ("show",), ("size",))[-3:]
        self.assertEqual(again, [[0] + answered[-2][:3], text(shown), answered[-2]], calls[-1:])
        self.assertEqual(told(("read", shown), ("show",)), again[:2], calls[-1:])

    def test_new_object(self):
        self.read_again([])

    def test_behind_each_change(self):
        for k in range(1, len(CHANGES) + 1):
            self.read_again(CHANGES[:k])

    def test_each_change_was_one(self):
        answered = told(*CHANGES)
        self.assertEqual(answered, [[0, 2, 2, 3], [1], [1], [1], [0], [3], [4], [1], [1], [3], [3], [1], [3], [0], [0]])

    def test_behind_each_refusal_and_question(self):
        for call in [call for call, refusal in REFUSED] + QUESTIONS:
            self.read_again([("read", EXAMPLE), call])

    def test_fullest_book(self):
        self.read_again([("read", FULLEST)])


class LongLists(unittest.TestCase):
    def test_fullest_book(self):
        known = [(k, number) for k in range(6) for number in FULLEST_NUMBERS]
        cells = FULLEST_ROW.split(" | ")
        answered = told(("read", FULLEST), ("size",), ("show",), ("nth", 23), ("row", 997, "sourcenumbe3"),
                        ("alike", 998, "sourcenumbe2", "fieldnumber1"), ("missing", "fieldnumber4"),
                        ("normal", "fieldnumber1", "B" * 24))
        self.assertEqual(answered, [[0, 5, 6, 24], [5, 6, 24, 120], text(FULLEST), [5, 999] + texts(*cells), texts(*cells),
                                    rows(*known), [0], text("b" * 24)])

    def test_fullest_book_changed(self):
        answered = told(("read", FULLEST), ("drop", 996, "sourcenumbe0"), ("put", "sourcenumbe5", "1: " + FULLEST_ROW),
                        ("put", "sourcenumbe0", "996: " + FULLEST_ROW), ("nth", 19), ("withdraw", "sourcenumbe5"),
                        ("put", "sourcenumbe0", "996: " + FULLEST_ROW), ("source", "sourcenumbe5"), ("size",))
        cells = FULLEST_ROW.split(" | ")
        self.assertEqual(answered[1:], [[23], [1], [-6], [5, 1] + texts(*cells), [5], [1], [6], [5, 6, 20, 100]])

    def test_show_of_the_fullest_book_many_times(self):
        shown = told(("read", FULLEST), *[("show",)] * 149)[1:]
        self.assertEqual(shown, [text(FULLEST)] * 149)

    def test_each_call_150_times(self):
        for call, answer in ((("put", "x", "1: 1"), [-4]), (("drop", 1, "x"), [-4]), (("withdraw", "x"), [-4]),
                             (("alike", 1, "x", "a"), [-4]), (("missing", "a"), [0]), (("size",), [1, 0, 0, 0])):
            self.assertEqual(told(*[call] * 150), [answer] * 150, call)
        self.assertEqual(told(*[("source", "x")] * 150), [[1]] + [[-5]] * 149)

    def test_150_changes(self):
        turn = [("source", "x"), ("put", "x", "2: b"), ("put", "x", "1: a"), ("put", "x", "2: "), ("missing", "a"),
                ("alike", 1, "x", "a"), ("drop", 1, "x"), ("size",), ("withdraw", "x"), ("show",)]
        told_once = [[1], [1], [1], [0], rows((0, 2)), rows((0, 1)), [1], [1, 1, 1, 0], [1], text(NEW)]
        self.assertEqual(told(*turn * 15), told_once * 15)

    def test_150_puts(self):
        puts = [("put", "x", "%d: %d" % (k % 24 + 1, k)) for k in range(148)]
        answered = told(("source", "x"), *puts, ("show",))
        self.assertEqual(answered[1:149], [[1]] * 24 + [[0]] * 124)
        newest = ["%d: %d" % (k % 24 + 1, k) for k in sorted(range(124, 148), key=lambda k: k % 24)]
        self.assertEqual(answered[149], text(NEW + lines("source x", *newest)))

    def test_texts_of_5000_bytes(self):
        for byte in (10, 32, 48, 57, 58, 97, 124, 255):
            long = [byte] * 5000
            self.assertEqual(told(("source", "x"), ("put", long, "1: a"), ("put", "x", long), ("show",)),
                             [[1], [-4], [-1], text(NEW + "source x\n")], byte)
            self.assertEqual(told(("drop", 1, long), ("source", long), ("withdraw", long)), [[-4], [-1], [-4]], byte)
            self.assertEqual(told(("alike", 1, long, long), ("missing", long)), [[-4], [-3]], byte)

    def test_long_lines(self):
        book = lines("field a text", "source x", "1: q")
        for line in ("1: " + "x" * 4997, "1: " + " | " * 1665, "1: " + "1 | " * 1249, "1" * 4998 + ": ", "0" * 4996 + "1: x"):
            self.assertEqual(after(book, ("put", "x", line)), [([-1], book)])

    def test_17000_numbers(self):
        filler = "x" * 4990
        calls = coded(("source", "x"), ("put", "x", filler), ("put", "x", filler), ("put", "x", filler), ("withdraw", "x"))
        answered = answers(calls)
        self.assertLess(len(calls), 17000)
        self.assertEqual(answered, [1, 1, 1, -1, 1, -1, 1, -1, 1, 0])

    def test_fullest_text_can_be_read(self):
        self.assertLessEqual(len(FULLEST), 5000)
        self.assertEqual(last(("read", FULLEST)), [0, 5, 6, 24])


if __name__ == "__main__":
    unittest.main()
