"""The interface: rowsources.books.answers."""

import contextlib
import io
import unittest

from rowsources.books import answers
from tests.helper import EXAMPLE, NEW, coded, last, lines, rows, text, texts, told

# Each call with what it answers, in one list on a new object.
ALL_CALLS = [
    (("size",), [1, 0, 0, 0]),
    (("read", EXAMPLE), [0, 2, 2, 3]),
    (("normal", "name", "Lee, Ann"), text("ann lee")),
    (("same", "name", "a", "A"), [1]),
    (("row", 5, "a"), texts("Bo", "")),
    (("nth", 2), [1, 1] + texts("ANN  LEE", "1981")),
    (("set", 5, "a", "name", "ann-lee"), [1]),
    (("source", "c"), [3]),
    (("put", "c", "9: LEE ANN | "), [1]),
    (("put", "c", "9: Ann Lee | "), [0]),
    (("alike", 2, "a", "name"), rows((0, 2), (0, 5), (1, 1), (2, 9))),
    (("missing", "born"), rows((0, 5), (2, 9))),
    (("drop", 2, "a"), [3]),
    (("withdraw", "b"), [1]),
    (("show",), text(lines("field name text lower plain sorted", "field born num", "source a", "5: ann-lee | ", "source c",
                           "9: Ann Lee | "))),
    (("size",), [2, 2, 2, 2]),
]


class Interface(unittest.TestCase):
    def test_numbers_as_they_stand(self):
        self.assertEqual(answers([13]), [4, 1, 0, 0, 0])
        self.assertEqual(answers([1]), [14, 13] + [ord(sign) for sign in NEW])
        self.assertEqual(answers([5, 0]), [1, -2])
        self.assertEqual(answers([0, 0]), [2, 1, 8])
        self.assertEqual(answers([2, 1, 97, 2, 66, 97]), [3, 2, 66, 97])
        self.assertEqual(answers([2, 0, 1, 66]), [1, -3])
        self.assertEqual(answers([3, 1, 97, 0, 0]), [1, 1])
        self.assertEqual(answers([3, 1, 97, 1, 65, 1, 66]), [1, 0])
        self.assertEqual(answers([4, -(10 ** 18), 1, 97]), [1, -4])
        self.assertEqual(answers([6, 10 ** 18, 0, 0, 0]), [1, -4])
        self.assertEqual(answers([7, 1, 97, 0]), [1, -4])
        self.assertEqual(answers([8, -(10 ** 18), 1, 97]), [1, -4])
        self.assertEqual(answers([9, 2, 97, 57]), [1, 1])
        self.assertEqual(answers([9, 0]), [1, -1])
        self.assertEqual(answers([10, 1, 97]), [1, -4])
        self.assertEqual(answers([11, 10 ** 18, 1, 97, 1, 97]), [1, -4])
        self.assertEqual(answers([12, 1, 97]), [1, 0])
        self.assertEqual(answers([12, 0]), [1, -3])

    def test_new_calls_as_they_stand(self):
        source = [9, 1, 120]
        put = [7, 1, 120, 4, 53, 58, 32, 81]
        self.assertEqual(answers(source + put + [13]), [1, 1, 1, 1, 4, 1, 1, 1, 1])
        self.assertEqual(answers(source + put + put + [11, 5, 1, 120, 1, 97]), [1, 1, 1, 1, 1, 0, 3, 1, 0, 5])
        self.assertEqual(answers(source + put + [6, 5, 1, 120, 1, 97, 0, 12, 1, 97]), [1, 1, 1, 1, 1, 1, 3, 1, 0, 5])
        self.assertEqual(answers(source + put + [8, 5, 1, 120, 8, 5, 1, 120]), [1, 1, 1, 1, 1, 0, 1, -4])
        self.assertEqual(answers(source + put + [10, 1, 120, 10, 1, 120]), [1, 1, 1, 1, 1, 1, 1, -4])

    def test_all_fourteen_calls_in_one_list(self):
        expected = []
        for answer in [answer for call, answer in ALL_CALLS]:
            expected.extend([len(answer)] + answer)
        self.assertEqual(len({call[0] for call, answer in ALL_CALLS}), 14)
        self.assertEqual(answers(coded(*[call for call, answer in ALL_CALLS])), expected)

    def test_several_calls_in_one_list(self):
        calls = coded(("size",), ("read", EXAMPLE), ("nth", 2), ("nth", 3), ("row", 5, "a"),
                      ("set", 5, "a", "name", "Cy"), ("same", "name", "a", "A"), ("normal", "born", "1"),
                      ("read", "x"), ("show",), ("size",))
        shown = text(EXAMPLE.replace("Bo", "Cy"))
        expected = [[1, 0, 0, 0], [0, 2, 2, 3], [1, 1] + texts("ANN  LEE", "1981"), [-2], texts("Bo", ""), [1], [1],
                    text("1"), [1, 1], shown, [2, 2, 3, 5]]
        flat = []
        for answer in expected:
            flat.extend([len(answer)] + answer)
        self.assertEqual(answers(calls), flat)

    def test_150_calls(self):
        self.assertEqual(told(*[("show",)] * 150), [text(NEW)] * 150)

    def test_only_whole_numbers_in_a_list(self):
        answered = answers(coded(("read", EXAMPLE), ("same", "name", "a", "A"), ("same", "name", "a", "b"),
                                 ("set", 2, "a", "name", "x"), ("set", 2, "a", "name", "x"), ("size",), ("show",),
                                 *[call for call, answer in ALL_CALLS]))
        self.assertIs(answered.__class__, list)
        self.assertEqual({number.__class__ for number in answered}, {int})

    def test_list_handed_in_stays(self):
        calls = coded(("read", EXAMPLE), ("set", 5, "a", "born", "3"), ("set", 5, "a", "born", ""), ("nth", 1),
                      ("normal", "name", "B a"), ("read", lines("field a num")), ("show",),
                      *[call for call, answer in ALL_CALLS])
        before = list(calls)
        answers(calls)
        self.assertEqual(calls, before)

    def test_list_is_never_written_to(self):
        class Watched(list):
            def refuse(self, *given):
                raise AssertionError("the list that was handed in is written to")

            append = extend = insert = pop = remove = clear = sort = reverse = refuse
            __setitem__ = __delitem__ = __iadd__ = __imul__ = refuse

        calls = coded(*[call for call, answer in ALL_CALLS])
        self.assertEqual(answers(Watched(calls)), answers(calls))

    def test_answer_is_a_list_of_its_own(self):
        calls = coded(("normal", "a", "x"))
        answers(calls).clear()
        self.assertEqual(answers(calls), [2, 1, 120])

    def test_same_list_twice(self):
        calls = coded(("show",), *[call for call, answer in ALL_CALLS], ("show",))
        self.assertEqual(answers(calls), answers(calls))

    def test_nothing_is_kept(self):
        self.assertEqual(last(("read", EXAMPLE), ("show",)), text(EXAMPLE))
        self.assertEqual(last(("show",)), text(NEW))
        self.assertEqual(last(("row", 2, "a")), [-4])
        self.assertEqual(told(("source", "x"), ("put", "x", "1: a")), [[1], [1]])
        self.assertEqual(told(("source", "x"), ("put", "x", "1: a")), [[1], [1]])

    def test_nothing_is_printed(self):
        out = io.StringIO()
        with contextlib.redirect_stdout(out), contextlib.redirect_stderr(out):
            told(("read", EXAMPLE), ("read", ""), ("show",), ("nth", 9), *[call for call, answer in ALL_CALLS])
        self.assertEqual(out.getvalue(), "")

    def test_long_texts(self):
        for byte in (10, 32, 48, 57, 65, 97, 124, 255):
            long = [byte] * 5000
            calls = [("read", long), ("normal", long, long), ("normal", "a", long)]
            self.assertEqual(told(*calls)[1:], [[-3], [-1]], byte)
            self.assertEqual(told(("same", "a", long, long), ("row", 1, long)), [[-1], [-4]], byte)
        self.assertEqual(last(("read", "\n" * 5000)), [1, 2])
        self.assertEqual(last(("read", lines("field a text lower", *["source s%d" % k for k in range(450)]))), [8, 4])


if __name__ == "__main__":
    unittest.main()
