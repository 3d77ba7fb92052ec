"""Promises [5] and [6]: str(book) and Book.read."""

import unittest
from itertools import product

from sheetmoves.books import Book
from sheetmoves.errors import BadText
from sheetmoves.stands import Stand

SOME = Book("ab", (("lie", ((-1, 0, "b", -2), (0, 0, "a", 1), (10, 0, "a", 1))),
                   ("stand", ((0, 0, "a", 1), (0, 1, "b", 10 ** 40)))))
TEXT = "\n".join(["kinds ab", "move lie", "-1 0 b -2", "0 0 a 1", "10 0 a 1",
                  "move stand", "0 0 a 1", "0 1 b 1" + "0" * 40])
NAMES = ["lie", "a", "z", "abcdefgh", "kind", "moves"]


def read_or_line(text):
    """The book with this text, or the line that is wrong."""
    try:
        return Book.read(text)
    except BadText as wrong:
        return wrong.line


class TestTexts(unittest.TestCase):
    def assert_bad(self, line, text):
        with self.assertRaises(BadText) as caught:
            Book.read(text)
        self.assertEqual(caught.exception.line, line)
        self.assertNotIsInstance(caught.exception.line, bool)

    def test_written(self):
        self.assertEqual(str(SOME), TEXT)
        self.assertEqual(str(Book("z", (("x", ((5, -5, "z", -1),)),))), "kinds z\nmove x\n5 -5 z -1")

    def test_read(self):
        found = Book.read(TEXT)
        self.assertIsInstance(found, Book)
        self.assertEqual(found, SOME)
        self.assertEqual((found.kinds, found.moves), (SOME.kinds, SOME.moves))
        self.assertEqual(Book.read(text="kinds a\nmove x\n0 0 a 1").moves, (("x", ((0, 0, "a", 1),)),))

    def test_read_book_works_as_any_other(self):
        found = Book.read(TEXT)
        self.assertEqual(found["lie"], SOME["lie"])
        self.assertEqual(found.names, ("lie", "stand"))
        self.assertEqual(found | SOME, SOME)

    def test_each_after_the_other(self):
        for book in (SOME, SOME.turned(), SOME.mirrored(), SOME.without("lie"), SOME.renamed(lie="zz", stand="a")):
            self.assertEqual(Book.read(str(book)), book)
            self.assertEqual(str(Book.read(str(book))), str(book))

    def test_right_names(self):
        for name in NAMES:
            self.assertEqual(Book.read(f"kinds a\nmove {name}\n0 0 a 1").names, (name,))

    def test_no_strings(self):
        for thing in [None, True, False, 0, 1, [], [TEXT], (), (TEXT,), {}, {"kinds": "a"}, SOME, Stand("a"), [[1]]]:
            with self.subTest(thing):
                self.assert_bad(0, thing)

    def test_first_lines(self):
        for line in ["", " ", "kinds", "kinds ", "kinds  a", " kinds a", "kinds a ", "kinds a b", "Kinds a", "kinds A",
                     "kinds ba", "kinds aa", "kinds abcd", "kinds 1", "a", "0 0 a 1", "move lie", "kinds kinds"]:
            for rest in ("", "\n", "\nmove lie\n0 0 a 1", "\nmove"):
                with self.subTest(line, rest=rest):
                    self.assert_bad(1, line + rest)

    def test_too_early_an_end(self):
        self.assert_bad(2, "kinds a")
        self.assert_bad(2, "kinds abc")
        self.assert_bad(3, "kinds a\nmove lie")
        self.assert_bad(5, "kinds a\nmove lie\n0 0 a 1\nmove stand")
        self.assert_bad(7, "kinds a\nmove a\n0 0 a 1\n1 0 a 1\n2 0 a 1\nmove b")

    def test_line_feeds_too_many(self):
        self.assert_bad(1, "")
        self.assert_bad(1, "\n")
        self.assert_bad(2, "kinds a\n")
        self.assert_bad(2, "kinds a\n\nmove lie\n0 0 a 1")
        self.assert_bad(3, "kinds a\nmove lie\n")
        self.assert_bad(3, "kinds a\nmove lie\n\n0 0 a 1")
        self.assert_bad(4, "kinds a\nmove lie\n0 0 a 1\n")
        self.assert_bad(4, "kinds a\nmove lie\n0 0 a 1\n\nmove stand\n0 0 a 1")
        self.assert_bad(5, "kinds a\nmove lie\n0 0 a 1\nmove stand\n")
        self.assert_bad(9, TEXT + "\n")
        self.assert_bad(9, TEXT + "\n\n")

    def test_a_move_line_directly_behind_a_move_line(self):
        self.assert_bad(3, "kinds a\nmove lie\nmove stand\n0 0 a 1")
        self.assert_bad(3, "kinds a\nmove lie\nmove lie\n0 0 a 1")
        self.assert_bad(3, "kinds a\nmove lie\nmove stand")
        self.assert_bad(5, "kinds a\nmove lie\n0 0 a 1\nmove m\nmove stand\n0 0 a 1")

    def test_an_entry_ahead_of_all_moves(self):
        self.assert_bad(2, "kinds a\n0 0 a 1")
        self.assert_bad(2, "kinds a\n0 0 a 1\nmove lie\n0 0 a 1")

    def test_names_that_do_not_come_behind_the_one_ahead(self):
        for one, other in [("lie", "lie"), ("stand", "lie"), ("b", "a"), ("aa", "a"), ("b", "ab"), ("lie", "li")]:
            with self.subTest(one, other=other):
                self.assert_bad(4, f"kinds a\nmove {one}\n0 0 a 1\nmove {other}\n0 0 a 2")
                self.assert_bad(4, f"kinds a\nmove {one}\n0 0 a 1\nmove {other}")
        self.assert_bad(6, "kinds a\nmove a\n0 0 a 1\nmove c\n0 0 a 1\nmove b\n0 0 a 1")
        self.assert_bad(6, "kinds a\nmove a\n0 0 a 1\nmove c\n0 0 a 1\nmove a\n0 0 a 1")
        self.assertEqual(Book.read("kinds a\nmove a\n0 0 a 1\nmove aa\n0 0 a 1\nmove b\n0 0 a 1").names, ("a", "aa", "b"))

    def test_wrong_move_lines(self):
        for line in ["", " ", "move", "move ", "move  lie", " move lie", "move lie ", "move lie up", "Move lie",
                     "movelie", "move Lie", "move l1", "move l_e", "move abcdefghi", "move kinds", "move move",
                     "move self", "lie", "kinds a", "mov lie", "move 0", "name lie", "lie move"]:
            with self.subTest(line):
                self.assert_bad(2, f"kinds a\n{line}\n0 0 a 1")
                self.assert_bad(2, f"kinds a\n{line}")
                self.assert_bad(4, f"kinds a\nmove a\n0 0 a 1\n{line}\n0 0 a 1")

    def test_wrong_entry_lines(self):
        for line in ["", " ", "0", "0 0 a", "0 0 a 1 ", " 0 0 a 1", "0  0 a 1", "0 0 a  1", "0 0 a 1 1", "0 0 1 a",
                     "0 0 aa 1", "0 0 A 1", "0 0 ab 1", "0 0 c 1", "0 0 a x", "0 0 a 1.0", "0 0 a 0", "0 0 b 0",
                     "+1 0 a 1", "0 -0 a 1", "0 0 a 01", "00 0 a 1", "0 0 a +1", "0 0 a -01", "0 0 a 1_0", "- 0 a 1",
                     "kinds ab", "move", "0 0 a 1" + "0" * 60, "-1" + "0" * 60 + " 0 a 1"]:
            with self.subTest(line):
                self.assert_bad(3, f"kinds ab\nmove lie\n{line}")
                self.assert_bad(3, f"kinds ab\nmove lie\n{line}\nmove stand")
                self.assert_bad(4, f"kinds ab\nmove lie\n-5 0 a 1\n{line}\n7 7 a 7")
                self.assert_bad(6, f"kinds ab\nmove lie\n-5 0 a 1\nmove stand\n-5 0 a 1\n{line}")

    def test_order_of_entries(self):
        for one, other in [("1 0 a 1", "0 0 a 1"), ("0 1 a 1", "0 0 a 1"), ("0 0 b 1", "0 0 a 1"),
                           ("0 0 a 1", "0 0 a 1"), ("0 0 a 1", "0 0 a 2"), ("0 0 a 2", "0 0 a 1"),
                           ("10 0 a 1", "2 0 a 1"), ("-9 0 a 1", "-10 0 a 1")]:
            with self.subTest(one, other=other):
                self.assert_bad(4, f"kinds ab\nmove lie\n{one}\n{other}")
                self.assert_bad(6, f"kinds ab\nmove lie\n{one}\nmove stand\n{one}\n{other}\n{one}")

    def test_each_move_begins_with_any_entry(self):
        text = "kinds a\nmove a\n5 5 a 1\nmove b\n-5 -5 a 1\n0 0 a 1\nmove c\n-5 -5 a 1"
        self.assertEqual(str(Book.read(text)), text)

    def test_sixty_digits(self):
        for sign in ("", "-"):
            most = sign + "9" * 60
            text = f"kinds a\nmove lie\n{most} {most} a {most}"
            self.assertEqual(Book.read(text).moves, (("lie", ((int(most), int(most), "a", int(most)),)),))
            self.assertEqual(str(Book.read(text)), text)
            self.assert_bad(3, f"kinds a\nmove lie\n{most}9 {most} a {most}")
            self.assert_bad(3, f"kinds a\nmove lie\n{most} {most}9 a {most}")
            self.assert_bad(3, f"kinds a\nmove lie\n{most} {most} a {most}9")

    def test_the_first_of_several_wrong_lines(self):
        self.assert_bad(1, "kinds ba\nmove lie")
        self.assert_bad(2, "kinds a\nmove self\nmove self")
        self.assert_bad(4, "kinds a\nmove lie\n0 0 a 1\n0 0 a 1\nmove a")
        self.assert_bad(4, "kinds a\nmove lie\n0 0 a 1\nmove a\nmove b")

    def test_the_text_of_a_stand_is_none_of_a_book(self):
        self.assert_bad(2, str(Stand("a")))
        self.assert_bad(2, str(Stand("a", ((0, 0, "a", 1),))))
        with self.assertRaises(BadText) as caught:
            Stand.read(TEXT)
        self.assertEqual(caught.exception.line, 2)

    def test_a_text_with_one_character_other_is_told_right(self):
        text = "\n".join(["kinds ab", "move a", "-1 0 a 5", "0 2 b 10", "move bc", "0 0 a 1"])
        for at in range(len(text) + 1):
            for new in ["", " ", "\n", "-", "0", "1", "a", "b", "c", "_"]:
                for told in (text[:at] + new + text[at + 1:], text[:at] + new + text[at:]):
                    self.check_line(told)

    def test_lines_in_any_order_are_told_right(self):
        lines = ["kinds a", "move a", "move b", "0 0 a 1", "1 0 a 1", ""]
        for many in range(5):
            for told in product(lines, repeat=many):
                self.check_line("\n".join(["kinds a", *told]))

    def check_line(self, text):
        """What is read is written as it was; else what stands ahead of the line can go on, and with it can not."""
        found = read_or_line(text)
        if isinstance(found, Book):
            self.assertEqual(str(found), text)
            return
        lines = text.split("\n")
        if found > 1:
            ahead = read_or_line("\n".join(lines[:found - 1]))
            self.assertTrue(isinstance(ahead, Book) or ahead == found)
        if found <= len(lines):
            self.assertEqual(read_or_line("\n".join(lines[:found])), found)
            self.assertEqual(read_or_line("\n".join([*lines[:found], "99 99 a 1"])), found)
        else:
            self.assertEqual(found, len(lines) + 1)
            self.assertNotIsInstance(read_or_line(text), Book)

    def test_beyond_the_limits(self):
        most = 10 ** 60 - 1
        entries = tuple((x * 10 ** 50, -most, "z", most if x % 2 else -most) for x in range(-20, 20))
        book = Book("az", tuple((one + other, entries) for one, other in product("abcdefg", repeat=2)))
        text = str(book)
        self.assertEqual(len(text.split("\n")), 1 + 49 * 41)
        self.assertEqual(Book.read(text), book)
        self.assertEqual(str(Book.read(text)), text)


if __name__ == "__main__":
    unittest.main()
