"""Promises 10 and 11: source and withdraw."""

import unittest

from tests.helper import EXAMPLE, NEW, after, as_bytes, lines, text, texts, told

SIX = lines("field a num", *["source s%d" % k for k in range(1, 7)])
THREE = lines("field a num", "source x", "1: 1", "2: ", "source y", "1: 2", "source z", "1: 1", "4: 4", "5: 5")


class SourceCall(unittest.TestCase):
    def test_behind_the_others(self):
        self.assertEqual(after(EXAMPLE, ("source", "aa")), [([3], EXAMPLE + lines("source aa"))])

    def test_new_object(self):
        self.assertEqual(told(("source", "a"), ("source", "b"), ("show",)),
                         [[1], [2], text(NEW + lines("source a", "source b"))])

    def test_names(self):
        for name in ("z", "a1", "abcdefghijkl", "a12345678901", "source", "field", "name", "num"):
            self.assertEqual(after(EXAMPLE, ("source", name)), [([3], EXAMPLE + lines("source " + name))], name)

    def test_no_names(self):
        for name in ("", "abcdefghijklm", "A", "aB", "Abc", "1", "1a", " ", " c", "c ", "c d", "a-b", "a_b", "c\n", "\xe4",
                     "c|", "a" * 5000, "source c", "`", "{", "a/", "a:", "a`", "a{", "\x00"):
            self.assertEqual(after(EXAMPLE, ("source", name)), [([-1], EXAMPLE)], name)

    def test_every_byte_alone_and_behind_a_letter(self):
        for byte in range(256):
            small = ord("a") <= byte <= ord("z")
            digit = ord("0") <= byte <= ord("9")
            answered = told(("source", [byte]), ("source", as_bytes("a") + [byte]))
            self.assertEqual(answered[0], [1] if small else [-1], byte)
            self.assertEqual(answered[1], [1 + small] if small or digit else [-1], byte)

    def test_name_that_a_source_has(self):
        for name in ("a", "b"):
            self.assertEqual(after(EXAMPLE, ("source", name)), [([-5], EXAMPLE)], name)
        self.assertEqual(told(("source", "x"), ("source", "x"), ("show",)), [[1], [-5], text(NEW + "source x\n")])

    def test_sixth_and_seventh(self):
        five = SIX.replace("source s6\n", "")
        self.assertEqual(after(five, ("source", "s6"), ("source", "s7")), [([6], SIX), ([-6], SIX)])

    def test_order_of_refusals(self):
        for name, refusal in (("S1", -1), ("", -1), ("abcdefghijklm", -1), ("s1", -5), ("s6", -5), ("s7", -6)):
            self.assertEqual(after(SIX, ("source", name)), [([refusal], SIX)], name)

    def test_rows_can_be_put_into_it(self):
        answered = told(("read", EXAMPLE), ("source", "c"), ("row", 4, "c"), ("put", "c", "4: Cy | 3"), ("row", 4, "c"),
                        ("nth", 3), ("put", "c", "2:  | "), ("show",))
        shown = EXAMPLE + lines("source c", "2:  | ", "4: Cy | 3")
        self.assertEqual(answered[1:], [[3], [-4], [1], texts("Cy", "3"), [2, 4] + texts("Cy", "3"), [1], text(shown)])

    def test_each_has_rows_of_its_own(self):
        answered = told(("source", "x"), ("source", "y"), ("put", "x", "1: q"), ("show",))
        self.assertEqual(answered[3], text(NEW + lines("source x", "1: q", "source y")))


class Withdraw(unittest.TestCase):
    def test_first(self):
        self.assertEqual(after(THREE, ("withdraw", "x")), [([2], THREE.replace("source x\n1: 1\n2: \n", ""))])

    def test_middle(self):
        self.assertEqual(after(THREE, ("withdraw", "y")), [([1], THREE.replace("source y\n1: 2\n", ""))])

    def test_last(self):
        self.assertEqual(after(THREE, ("withdraw", "z")), [([3], THREE.replace("source z\n1: 1\n4: 4\n5: 5\n", ""))])

    def test_all_of_them(self):
        answered = after(THREE, ("withdraw", "y"), ("withdraw", "z"), ("withdraw", "x"))
        self.assertEqual([answer for answer, shown in answered], [[1], [3], [2]])
        self.assertEqual(answered[2][1], "field a num\n")

    def test_without_rows(self):
        self.assertEqual(after(SIX, ("withdraw", "s3")), [([0], SIX.replace("source s3\n", ""))])
        self.assertEqual(told(("source", "x"), ("withdraw", "x"), ("show",)), [[1], [0], text(NEW)])

    def test_no_such_source(self):
        for name in ("", "w", "X", "x ", "xx", "a", "x\n", "x" * 5000, "\xff", "source x"):
            self.assertEqual(after(THREE, ("withdraw", name)), [([-4], THREE)], name)
        self.assertEqual(told(("withdraw", "a"), ("show",)), [[-4], text(NEW)])

    def test_twice(self):
        gone = THREE.replace("source y\n1: 2\n", "")
        self.assertEqual(after(THREE, ("withdraw", "y"), ("withdraw", "y")), [([1], gone), ([-4], gone)])

    def test_numbers_of_the_others(self):
        answered = told(("read", THREE), ("withdraw", "y"), ("alike", 1, "x", "a"), ("nth", 0), ("nth", 2), ("nth", 5),
                        ("withdraw", "x"), ("nth", 0), ("alike", 1, "z", "a"))
        self.assertEqual(answered[1:], [[1], [2, 0, 1, 1, 1], [0, 1] + texts("1"), [1, 1] + texts("1"), [-2], [2],
                                        [0, 1] + texts("1"), [1, 0, 1]])

    def test_its_rows_are_gone(self):
        answered = told(("read", THREE), ("withdraw", "y"), ("row", 1, "y"), ("set", 1, "y", "a", "1"), ("put", "y", "1: 1"),
                        ("drop", 1, "y"), ("alike", 1, "y", "a"), ("row", 1, "z"), ("size",))
        self.assertEqual(answered[1:], [[1]] + [[-4]] * 5 + [texts("1"), [1, 2, 5, 4]])

    def test_put_again_under_the_same_name(self):
        behind = THREE.replace("source y\n1: 2\n", "") + lines("source y")
        answered = after(THREE, ("withdraw", "y"), ("source", "y"), ("put", "y", "1: 7"))
        self.assertEqual(answered[1:], [([3], behind), ([1], behind + lines("1: 7"))])

    def test_room_for_another_source(self):
        answered = told(("read", SIX), ("source", "new"), ("withdraw", "s1"), ("source", "new"), ("source", "newer"))
        self.assertEqual(answered[1:], [[-6], [0], [6], [-6]])

    def test_room_for_other_rows(self):
        full = lines("field a num", "source x", *["%d: 1" % k for k in range(1, 24)], "source y", "1: 1")
        answered = told(("read", full), ("put", "y", "2: 1"), ("withdraw", "x"), ("put", "y", "2: 1"), ("size",))
        self.assertEqual(answered[1:], [[-6], [23], [1], [1, 1, 2, 2]])


if __name__ == "__main__":
    unittest.main()
