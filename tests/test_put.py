"""Promise 8: put."""

import unittest

from tests.helper import EXAMPLE, NEW, after, as_bytes, last, lines, text, texts, told

# Below, with_row tells the place of a new row among these lines.
BOOK = ("field n num", "field t text lower", "source e", "source x", "3: 1 | a", "7: 2 | b", "source y", "3: 4 | c")
FULL_ROWS = ["%d: %d" % (k, k) for k in range(2, 48, 2)]


def with_row(place, row):
    return lines(*BOOK[:place], row, *BOOK[place:])


class Put(unittest.TestCase):
    def put(self, source, line, answer, shown, book=lines(*BOOK)):
        self.assertEqual(after(book, ("put", source, line)), [([answer], shown)], (source, line))

    def test_ahead_of_the_others(self):
        self.put("x", "2: 5 | z", 1, with_row(4, "2: 5 | z"))
        self.put("x", "1: 5 | z", 1, with_row(4, "1: 5 | z"))

    def test_between_the_others(self):
        self.put("x", "4: 5 | z", 1, with_row(5, "4: 5 | z"))
        self.put("x", "6: 5 | z", 1, with_row(5, "6: 5 | z"))

    def test_behind_the_others(self):
        self.put("x", "8: 5 | z", 1, with_row(6, "8: 5 | z"))
        self.put("y", "4: 5 | z", 1, with_row(8, "4: 5 | z"))

    def test_numbers_count_not_their_first_digits(self):
        self.put("x", "10: 5 | z", 1, with_row(6, "10: 5 | z"))
        self.put("x", "30: 5 | z", 1, with_row(6, "30: 5 | z"))

    def test_into_an_empty_source(self):
        self.put("e", "3: 5 | z", 1, with_row(3, "3: 5 | z"))

    def test_in_the_place_of_another(self):
        self.put("x", "3: 5 | z", 0, lines(*BOOK).replace("3: 1 | a", "3: 5 | z"))
        self.put("x", "7: 5 | z", 0, lines(*BOOK).replace("7: 2 | b", "7: 5 | z"))
        self.put("y", "3:  | ", 0, lines(*BOOK).replace("3: 4 | c", "3:  | "))

    def test_in_the_place_of_the_middle_one(self):
        book = lines("field a num", "source x", "1: 1", "2: 2", "3: 3")
        self.put("x", "2: 9", 0, book.replace("2: 2", "2: 9"), book)

    def test_in_the_place_of_the_only_one(self):
        book = lines("field a num", "source x", "5: 1")
        self.put("x", "5: 2", 0, book.replace("5: 1", "5: 2"), book)

    def test_the_same_row_again_is_not_new(self):
        self.put("x", "3: 1 | a", 0, lines(*BOOK))

    def test_the_same_number_in_another_source_is_new(self):
        self.put("y", "7: 2 | b", 1, with_row(8, "7: 2 | b"))

    def test_first_and_last_row_number(self):
        answered = after(lines("field a num", "source x"), ("put", "x", "999: 1"), ("put", "x", "1: 2"))
        self.assertEqual(answered[1], ([1], lines("field a num", "source x", "1: 2", "999: 1")))

    def test_cells(self):
        cells = {"text": ("", "x", "x" * 24, "a  b", ": :", "1: 2", "~"),
                 "num": ("", "0", "-7", "1000000000", "-1000000000")}
        for kind in cells:
            book = lines("field a " + kind, "source x")
            for cell in cells[kind]:
                self.put("x", "1: " + cell, 1, book + lines("1: " + cell), book)

    def test_other_calls_see_it(self):
        answered = told(("read", lines(*BOOK)), ("put", "x", "4: 5 | A"), ("row", 4, "x"), ("nth", 1), ("nth", 3),
                        ("set", 4, "x", "n", "6"), ("row", 4, "x"), ("alike", 3, "x", "t"))
        self.assertEqual(answered[1:], [[1], texts("5", "A"), [1, 4] + texts("5", "A"), [2, 3] + texts("4", "c"), [1],
                                        texts("6", "A"), [2, 1, 3, 1, 4]])

    def test_answer_is_a_whole_number(self):
        answered = told(("read", EXAMPLE), ("put", "a", "3: | "), ("put", "a", "3:  | "), ("put", "a", "3:  | "))
        self.assertEqual([answer[0].__class__ for answer in answered[1:]], [int, int, int])
        self.assertEqual(answered[1:], [[-1], [1], [0]])


class Full(unittest.TestCase):
    """A book with 24 rows."""

    BOOK = lines("field a num", "source x", *FULL_ROWS, "source y", "1: 1", "source z")

    def put(self, source, line, answer, shown):
        self.assertEqual(after(self.BOOK, ("put", source, line)), [([answer], shown)], (source, line))

    def test_new_one(self):
        for source, line in (("x", "1: 5"), ("x", "3: 5"), ("x", "999: 5"), ("y", "2: 5"), ("z", "1: 5")):
            self.put(source, line, -6, self.BOOK)

    def test_in_the_place_of_another(self):
        self.put("x", "2: 5", 0, self.BOOK.replace("\n2: 2\n", "\n2: 5\n"))
        self.put("x", "46: 5", 0, self.BOOK.replace("\n46: 46\n", "\n46: 5\n"))
        self.put("y", "1: 5", 0, self.BOOK.replace("\n1: 1\n", "\n1: 5\n"))

    def test_24th_and_25th(self):
        answered = after(self.BOOK, ("drop", 1, "y"), ("put", "z", "9: 1"), ("put", "z", "10: 1"), ("put", "z", "9: 2"))
        self.assertEqual([answer for answer, shown in answered], [[23], [1], [-6], [0]])
        self.assertEqual(answered[3][1], self.BOOK.replace("1: 1\nsource z\n", "source z\n9: 2\n"))

    def test_from_none_to_24(self):
        puts = [("put", "x", "%d: 1" % k) for k in range(30, 0, -1)]
        answered = told(("source", "x"), *puts, ("size",))
        self.assertEqual(answered[1:], [[1]] * 24 + [[-6]] * 6 + [[1, 1, 24, 24]])


class Refused(unittest.TestCase):
    def refused(self, call, refusal, book=EXAMPLE):
        self.assertEqual(after(book, call), [([refusal], book)], call)

    def wrong_lines(self, *wrong):
        for line in wrong:
            self.refused(("put", "a", line), -1)

    def test_no_such_source(self):
        for name in ("", "c", "A", "a ", "aa", "name", "born", "a\n", "a" * 5000, "\xff"):
            self.refused(("put", name, "3: Cy | -7"), -4)
        self.assertEqual(told(("put", "a", "1: x"), ("show",)), [[-4], text(NEW)])

    def test_no_row_at_all(self):
        self.wrong_lines("", " ", "x", "|", " | ", ":", ": ", "3", "3:", "3: ", "3:Cy | -7", "3 Cy | -7", "3. Cy | -7")

    def test_lines_of_others(self):
        self.wrong_lines("field c text", "field c num", "source c", "source a", "field name text lower plain sorted")

    def test_numbers(self):
        self.wrong_lines("0: Cy | -7", "1000: Cy | -7", "03: Cy | -7", "003: Cy | -7", "00: Cy | -7", "-3: Cy | -7",
                         "+3: Cy | -7", " 3: Cy | -7", "3 : Cy | -7", ": Cy | -7", "x: Cy | -7", "3x: Cy | -7",
                         "02: Cy | -7", "9" * 4900 + ": Cy | -7", "1000000000000000000: Cy | -7")

    def test_ends(self):
        self.wrong_lines("3: Cy | -7\n", "3: Cy | \n", "\n3: Cy | -7", "3: Cy | -7\r\n", "3: Cy | -7\n4: Cy | -7\n", "\n")
        for field in ("text", "num"):
            self.refused(("put", "x", "1: 1\n"), -1, lines("field a " + field, "source x"))
            self.refused(("put", "x", "1: \n"), -1, lines("field a " + field, "source x"))

    def test_bytes_that_are_no_signs(self):
        for byte in list(range(32)) + list(range(127, 256)):
            for around in (("3: C", "y | -7"), ("3: Cy | -7", ""), ("3: Cy |", "-7"), ("3:", "Cy | -7"), ("3", ": Cy | -7"),
                           ("", "3: Cy | -7")):
                self.refused(("put", "a", as_bytes(around[0]) + [byte] + as_bytes(around[1])), -1)

    def test_how_many_texts(self):
        self.wrong_lines("3: Cy", "3: Cy | -7 | ", "3: Cy | -7 | 1", "3:  |  | ", "3: Cy | -7 | 1 | 2 | 3 | 4")
        self.refused(("put", "x", "1: 1 | "), -1, lines("field a num", "source x"))
        five = lines(*["field f%d num" % k for k in range(5)], "source x")
        self.refused(("put", "x", "1: 1 | 2 | 3 | 4"), -1, five)
        self.refused(("put", "x", "1: 1 | 2 | 3 | 4 | 5 | 6"), -1, five)

    def test_bars(self):
        self.wrong_lines("3: Cy|-7", "3: Cy |-7", "3: Cy| -7", "3: Cy |", "3: | -7", "3: Cy | | -7", "3: Cy || -7",
                         "3: Cy | -7|", "3: Cy | -7 |", "3: C|y | -7")

    def test_no_cells_of_texts(self):
        self.wrong_lines("3:  Cy | -7", "3: Cy  | -7", "3:   | -7", "3: " + "x" * 25 + " | -7", "3: " + "x" * 4900 + " | -7")

    def test_no_cells_of_numbers(self):
        self.wrong_lines("3: Cy | x", "3: Cy | 07", "3: Cy | -0", "3: Cy | +7", "3: Cy | - 7", "3: Cy |  7", "3: Cy | 7 ",
                         "3: Cy |  ", "3: Cy | 1000000001", "3: Cy | -1000000001", "3: Cy | " + "9" * 4900, "3: 1980 | Cy")

    def test_in_the_place_of_another(self):
        self.wrong_lines("2: Cy", "2: Cy | x", "2: Cy | 1\n", "02: Cy | 1", "2:Cy | 1")

    def test_order(self):
        full = lines("field a num", "source x", *FULL_ROWS, "99: 1")
        self.refused(("put", "y", "1: z"), -4, full)
        self.refused(("put", "y", "1: 1"), -4, full)
        self.refused(("put", "y", "nothing"), -4, full)
        self.refused(("put", "x", "1: z"), -1, full)
        self.refused(("put", "x", "1000: 1"), -1, full)
        self.refused(("put", "x", "2: z"), -1, full)
        self.refused(("put", "x", "1: 1"), -6, full)

    def test_cells_of_the_book_that_is_there_now(self):
        answer = last(("read", EXAMPLE), ("read", lines("field z num", "source a")), ("put", "a", "3: Cy | -7"))
        self.assertEqual(answer, [-1])


if __name__ == "__main__":
    unittest.main()
