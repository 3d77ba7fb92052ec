"""Promise [5]: str(stand) and Stand.read."""

import unittest

from sheetmoves.books import Book
from sheetmoves.errors import BadText
from sheetmoves.stands import Stand

SOME = Stand("ab", ((-10, 3, "b", -1), (-9, 0, "a", 25), (2, 0, "a", 1), (2, 0, "b", 10 ** 40), (10, -7, "a", -300)))
TEXT = "\n".join(["kinds ab", "-10 3 b -1", "-9 0 a 25", "2 0 a 1", "2 0 b 1" + "0" * 40, "10 -7 a -300"])


def read_or_line(text):
    """The stand with this text, or the line that is wrong."""
    try:
        return Stand.read(text)
    except BadText as wrong:
        return wrong.line


class TestTexts(unittest.TestCase):
    def assert_bad(self, line, text):
        with self.assertRaises(BadText) as caught:
            Stand.read(text)
        self.assertEqual(caught.exception.line, line)
        self.assertNotIsInstance(caught.exception.line, bool)

    def test_written(self):
        self.assertEqual(str(SOME), TEXT)
        self.assertEqual(str(Stand("a")), "kinds a")
        self.assertEqual(str(Stand("abc", ((0, 0, "c", -1),))), "kinds abc\n0 0 c -1")

    def test_read(self):
        found = Stand.read(TEXT)
        self.assertIsInstance(found, Stand)
        self.assertEqual(found, SOME)
        self.assertEqual((found.kinds, found.entries), (SOME.kinds, SOME.entries))
        self.assertEqual(Stand.read("kinds a"), Stand("a"))
        self.assertEqual(Stand.read("kinds xyz").kinds, "xyz")
        self.assertEqual(Stand.read(text="kinds a\n0 0 a 1").entries, ((0, 0, "a", 1),))

    def test_read_stand_works_as_any_other(self):
        found = Stand.read("kinds ab\n0 0 a 1\n0 0 b 2")
        self.assertEqual(found[0, 0, "b"], 2)
        self.assertIn((0, 0), found)
        self.assertEqual((found - found).entries, ())

    def test_each_after_the_other(self):
        for stand in (SOME, SOME * -1, SOME.moved((-10 ** 9, 10 ** 9)), Stand("xyz"), SOME - SOME):
            self.assertEqual(Stand.read(str(stand)), stand)
            self.assertEqual(str(Stand.read(str(stand))), str(stand))

    def test_no_strings(self):
        for thing in [None, True, False, 0, 1, [], ["kinds a"], (), ("kinds a",), {}, {"kinds": "a"}, SOME,
                      Book("a", (("lie", ((0, 0, "a", 1),)),)), [[TEXT]]]:
            with self.subTest(thing):
                self.assert_bad(0, thing)

    def test_first_lines(self):
        for line in ["", " ", "kinds", "kinds ", "kinds  a", " kinds a", "kinds a ", "kinds a b", "kind a", "kindsa",
                     "Kinds a", "KINDS a", "kinds A", "kinds ba", "kinds aa", "kinds abcd", "kinds 1", "a", "ab",
                     "kinds a;", "kinds kinds", "0 0 a 1", "move lie", "x", "kinds kinds a", "stand a"]:
            for rest in ("", "\n", "\n0 0 a 1", "\n0 0 a 0"):
                with self.subTest(line, rest=rest):
                    self.assert_bad(1, line + rest)

    def test_the_kinds_line_alone_and_split(self):
        self.assert_bad(1, "kinds\na")
        self.assert_bad(1, "\nkinds a")
        self.assert_bad(2, "kinds a\nkinds a")

    def test_wrong_entry_lines(self):
        for line in ["", " ", "0", "0 0 a", "0 0 a 1 ", " 0 0 a 1", "0  0 a 1", "0 0  a 1", "0 0 a  1", "0 0 a 1 1",
                     "0 0 1 a", "0 a 0 1", "0 0 a a", "a 0 a 1", "0 a a 1", "0 0 a x", "0 0 aa 1", "0 0 A 1", "0 0 ab 1",
                     "0 0 c 1", "0 0 0 1", "0 0 a 1.0", "0 0 a 1e3", "0 0 a 0x1", "0 0 a 1_0", "1_0 0 a 1", "0,0 a 1",
                     "0 0 a None", "0 0 a True", "move lie", "kinds ab", "0;0;a;1",
                     "(0, 0, a, 1)", "-- 0 a 1", "- 0 a 1", "0 - a 1", "0 0 a -", "0 0 a --1", "--1 0 a 1", "0 0 - 1"]:
            with self.subTest(line):
                self.assert_bad(2, "kinds ab\n" + line)
                self.assert_bad(3, "kinds ab\n-5 0 a 1\n" + line)
                self.assert_bad(3, "kinds ab\n-5 0 a 1\n" + line + "\n7 7 a 7")

    def test_signs_and_needless_zeros(self):
        for word in ["+1", "+0", "-0", "00", "01", "-01", "007", "-00", "+-1", "-+1", "1-", "0-1", "0 1"]:
            for line in (f"{word} 0 a 1", f"0 {word} a 1", f"0 0 a {word}"):
                with self.subTest(line):
                    self.assert_bad(2, "kinds a\n" + line)

    def test_sixty_and_sixty_one_digits(self):
        for sign in ("", "-"):
            right, wrong = sign + "9" * 60, sign + "1" + "0" * 60
            for at in range(3):
                words = ["0", "0", "1"]
                words[at] = right
                told = Stand.read("kinds a\n{} {} a {}".format(*words))
                self.assertEqual(told.entries, ((int(words[0]), int(words[1]), "a", int(words[2])),))
                self.assertEqual(str(told), "kinds a\n{} {} a {}".format(*words))
                words[at] = wrong
                self.assert_bad(2, "kinds a\n{} {} a {}".format(*words))
        self.assert_bad(2, "kinds a\n0 0 a " + "0" * 60 + "1")
        self.assert_bad(2, "kinds a\n0 0 a " + "7" * 19000)

    def test_other_kinds(self):
        self.assert_bad(2, "kinds a\n0 0 b 1")
        self.assert_bad(3, "kinds ac\n0 0 a 1\n0 0 b 1")
        self.assert_bad(2, "kinds ab\n0 0 ab 1")

    def test_the_number_0(self):
        self.assert_bad(2, "kinds a\n0 0 a 0")
        self.assert_bad(3, "kinds a\n0 0 a 1\n1 0 a 0\n1 0 a 1")

    def test_order(self):
        for one, other in [("1 0 a 1", "0 0 a 1"), ("0 1 a 1", "0 0 a 1"), ("0 0 b 1", "0 0 a 1"),
                           ("0 0 a 1", "0 0 a 1"), ("0 0 a 1", "0 0 a 2"), ("0 0 a 2", "0 0 a 1"),
                           ("10 0 a 1", "2 0 a 1"), ("-9 0 a 1", "-10 0 a 1"), ("0 10 a 1", "0 9 a 1")]:
            with self.subTest(one, other=other):
                self.assert_bad(3, f"kinds ab\n{one}\n{other}")
                self.assert_bad(4, f"kinds ab\n-99 0 a 1\n{one}\n{other}\n-99 0 a 0")

    def test_order_is_that_of_the_entries_and_not_of_the_lines(self):
        text = "kinds a\n-10 0 a 1\n-9 0 a 1\n2 0 a 1\n2 9 a 1\n2 10 a 1\n10 0 a 1"
        self.assertEqual(str(Stand.read(text)), text)

    def test_line_feeds_too_many(self):
        self.assert_bad(1, "")
        self.assert_bad(1, "\n")
        self.assert_bad(2, "kinds a\n")
        self.assert_bad(2, "kinds a\n\n0 0 a 1")
        self.assert_bad(3, "kinds a\n0 0 a 1\n")
        self.assert_bad(3, "kinds a\n0 0 a 1\n\n")
        self.assert_bad(3, "kinds a\n0 0 a 1\n\n1 0 a 1")
        self.assert_bad(7, TEXT + "\n")

    def test_blanks(self):
        self.assert_bad(2, "kinds a\n ")
        self.assert_bad(6, TEXT + " ")
        self.assert_bad(1, " " + TEXT)
        self.assert_bad(1, TEXT.replace("\n", " \n"))

    def test_the_first_of_several_wrong_lines(self):
        self.assert_bad(2, "kinds a\n0 0 a 0\n0 0 a\nx")
        self.assert_bad(3, "kinds a\n0 0 a 1\n0 0 a 1\n\n")
        self.assert_bad(1, "kinds ba\n0 0 a 0")

    def test_a_text_with_one_character_other_is_told_right(self):
        lines = ["kinds ab", "-1 0 a 5", "0 2 a -1", "0 2 b 10"]
        text = "\n".join(lines)
        for at in range(len(text) + 1):
            for new in ["", " ", "\n", "-", "+", "0", "1", "9", "a", "b", "c", "_"]:
                for told in (text[:at] + new + text[at + 1:], text[:at] + new + text[at:]):
                    self.check_line(told)

    def check_line(self, text):
        """What is read is written as it was; else what stands ahead of the line is right, and with it is not."""
        found = read_or_line(text)
        if isinstance(found, Stand):
            self.assertEqual(str(found), text)
            return
        lines = text.split("\n")
        self.assertLessEqual(found, len(lines))
        self.assertEqual(read_or_line("\n".join(lines[:found])), found)
        if found > 1:
            self.assertIsInstance(read_or_line("\n".join(lines[:found - 1])), Stand)

    def test_beyond_the_limits(self):
        most = 10 ** 60 - 1
        entries = tuple((x * 10 ** 50, -most, "z", most if x % 2 else -most) for x in range(-1000, 1000))
        stand = Stand("az", entries)
        text = str(stand)
        self.assertEqual(len(text.split("\n")), 2001)
        self.assertEqual(Stand.read(text), stand)
        self.assertEqual(str(Stand.read(text)), text)
        self.assert_bad(2002, text + "\n" + f"0 0 z {most}")

    def test_the_text_stays(self):
        stand = Stand.read(TEXT)
        self.assertEqual(str(stand), str(stand))
        self.assertEqual(stand.entries, SOME.entries)


if __name__ == "__main__":
    unittest.main()
