"""Promise [7]: is_script and is_laid, and BadScript of change and laid, for any value."""

import unittest

from sheetmoves import scripts
from sheetmoves.books import Book
from sheetmoves.errors import BadScript
from sheetmoves.scripts import change, is_laid, is_script, laid
from sheetmoves.stands import Stand

LIE = ((0, 0, "a", 1), (1, 0, "a", 1), (2, 0, "a", 1))
UP = ((0, 0, "a", 1), (0, 1, "a", 1), (0, 2, "a", 1))
BARS = Book("a", (("lie", LIE), ("stand", UP)))
DEED = ("lie", 3, -4, 2)
OTHER = ("stand", 0, 0, -1)
HUGE = 10 ** 399

GOOD_ITEMS = [
    DEED, OTHER, ("lie", 0, 0, 0), ("stand", HUGE, -HUGE, HUGE), ("lie", -1, -1, -1),
    (0, 0, 0, ()), (1, 2, 3, ()), (3, 1, 0, (DEED,)), (0, 1, 0, (DEED, OTHER)), (HUGE, HUGE, -HUGE, ()),
    (2, 0, 0, ((0, 0, 0, ()), DEED)), (2, -1, 0, ((3, 0, 1, ((4, 1, 1, (OTHER, DEED)),)), DEED)),
]

BAD_DEEDS = [
    (), ("lie",), ("lie", 0), ("lie", 0, 0), ("lie", 0, 0, 1, 1), ("lie", 0, 0, 1, ()),
    ["lie", 0, 0, 1], ("li", 0, 0, 1), ("lies", 0, 0, 1), ("", 0, 0, 1), ("Lie", 0, 0, 1), ("move", 0, 0, 1),
    ("lie stand", 0, 0, 1), (("lie",), 0, 0, 1), (["lie"], 0, 0, 1), (None, 0, 0, 1), (BARS, 0, 0, 1),
    ("lie", True, 0, 1), ("lie", 0, False, 1), ("lie", 0, 0, True), ("lie", 0, 0, False),
    ("lie", None, 0, 1), ("lie", 0, None, 1), ("lie", 0, 0, None), ("lie", "0", 0, 1), ("lie", 0, "0", 1),
    ("lie", 0, 0, "1"), ("lie", 0, 0, ()), ("lie", (0,), 0, 1), ("lie", 0, [0], 1), ("lie", 0, {}, 1),
    ("lie", Stand("a"), 0, 1), (0, 0, "lie", 1), (0, 0, 1, "lie"),
]

BAD_LOOPS = [
    (-1, 0, 0, ()), (-HUGE, 0, 0, ()), (True, 0, 0, ()), (False, 0, 0, ()), (None, 0, 0, ()), ("2", 0, 0, ()),
    (2, True, 0, ()), (2, 0, False, ()), (2, None, 0, ()), (2, 0, "0", ()), (2, 0, (0,), ()), (2, [0], 0, ()),
    (2, 0, 0), (2, 0, 0, (), ()), (2, (), 0, 0), [2, 0, 0, ()], (2, 0, ()), (2, ()),
    (2, 0, 0, []), (2, 0, 0, [DEED]), (2, 0, 0, DEED), (2, 0, 0, None), (2, 0, 0, 0), (2, 0, 0, ""), (2, 0, 0, {}),
    (2, 0, 0, "lie"), (2, 0, 0, (0, 0, 0, ())), (2, 0, 0, (DEED, None)), (2, 0, 0, (list(DEED),)),
    (0, 0, 0, []), (0, 0, 0, None), (0, 0, 0, (("li", 0, 0, 1),)), (0, 0, 0, (DEED, ())), (0, 0, 0, DEED),
    (0, 0, 0, ((-1, 0, 0, ()),)), (0, 0, 0, (("lie", 0, 0, True),)),
    (2, 0, 0, ((1, 0, 0, ((0, 0, 0, (DEED, ("lie", 0, 0))),)),)),
    (2, 0, 0, ((1, 0, 0, ((0, 0, 0, ((-1, 0, 0, ()),)),)),)),
]


def no_tuples():
    return [None, True, False, 0, 1, -1, HUGE, "", "lie", "script", "x" * 20000, [], [DEED], {}, {0: DEED},
            Stand("a", LIE), BARS]


def nested(item, deep):
    for _ in range(deep):
        item = (1, 0, 0, (item,))
    return item


class TestIsScript(unittest.TestCase):
    def test_right_ones(self):
        self.assertIs(is_script(BARS, ()), True)
        self.assertIs(is_script(BARS, tuple(GOOD_ITEMS)), True)
        self.assertIs(is_script(BARS, tuple(reversed(GOOD_ITEMS))), True)
        self.assertIs(is_script(BARS, (DEED, DEED)), True)
        for item in GOOD_ITEMS:
            with self.subTest(item):
                self.assertIs(is_script(BARS, (item,)), True)

    def test_wrong_items(self):
        for item in BAD_DEEDS + BAD_LOOPS + no_tuples():
            with self.subTest(item):
                self.assertIs(is_script(BARS, (item,)), False)
                self.assertIs(is_script(BARS, (DEED, item)), False)
                self.assertIs(is_script(BARS, (item, DEED)), False)
                self.assertIs(is_script(BARS, ((0, 0, 0, (item,)),)), False)
                self.assertIs(is_script(BARS, (nested(item, 3),)), False)

    def test_no_tuples(self):
        for thing in no_tuples():
            with self.subTest(thing):
                self.assertIs(is_script(BARS, thing), False)
        self.assertIs(is_script(BARS, DEED), False)
        self.assertIs(is_script(BARS, (2, 0, 0, ())), False)

    def test_of_this_book_alone(self):
        self.assertIs(is_script(BARS.without("lie"), (DEED,)), False)
        self.assertIs(is_script(BARS.without("lie"), ((2, 0, 0, (OTHER, DEED)),)), False)
        self.assertIs(is_script(BARS.without("lie"), ((2, 0, 0, (OTHER,)),)), True)
        self.assertIs(is_script(BARS.renamed(lie="flat"), (("flat", 0, 0, 1),)), True)

    def test_deep_and_long(self):
        self.assertIs(is_script(BARS, (nested(DEED, 13),)), True)
        self.assertIs(is_script(BARS, (nested(("lie", 0, 0, True), 13),)), False)
        self.assertIs(is_script(BARS, (DEED,) * 10000), True)
        self.assertIs(is_script(BARS, (DEED,) * 9999 + (("lie", 0, 0),)), False)
        thing = 0
        for _ in range(29):
            thing = (thing,)
        self.assertIs(is_script(BARS, thing), False)

    def test_by_name(self):
        self.assertIs(is_script(book=BARS, thing=(DEED,)), True)
        self.assertIs(is_laid(book=BARS, thing=(DEED,)), True)

    def test_defined_here(self):
        for name in ("is_script", "is_laid", "change", "laid", "undone", "within"):
            self.assertEqual(getattr(scripts, name).__module__, "sheetmoves.scripts")


class TestIsLaid(unittest.TestCase):
    def test_right_ones(self):
        for thing in [(), (DEED,), (OTHER,), (DEED, OTHER), (("lie", 0, 0, -5), ("lie", 0, 1, 2), ("lie", 1, -9, 1)),
                      (("lie", -HUGE, HUGE, HUGE), ("lie", HUGE, 0, -HUGE)),
                      tuple(("lie", k, 0, 1) for k in range(5000))]:
            with self.subTest(thing[:3]):
                self.assertIs(is_laid(BARS, thing), True)

    def test_order(self):
        for thing in [(OTHER, DEED), (("lie", 0, 1, 1), ("lie", 0, 0, 1)), (("lie", 1, 0, 1), ("lie", 0, 5, 1)),
                      (("lie", 0, 0, 1), ("stand", 0, 0, 1), ("lie", 1, 0, 1))]:
            with self.subTest(thing):
                self.assertIs(is_laid(BARS, thing), False)
                self.assertIs(is_script(BARS, thing), True)
                self.assertIs(is_laid(BARS, tuple(sorted(thing))), True)

    def test_twice(self):
        self.assertIs(is_laid(BARS, (DEED, DEED)), False)
        self.assertIs(is_laid(BARS, (("lie", 0, 0, 1), ("lie", 0, 0, 2))), False)
        self.assertIs(is_laid(BARS, (("lie", 0, 0, -1), ("lie", 0, 0, 1), ("stand", 0, 0, 1))), False)

    def test_times_0(self):
        self.assertIs(is_laid(BARS, (("lie", 0, 0, 0),)), False)
        self.assertIs(is_laid(BARS, (DEED, ("stand", 0, 0, 0))), False)

    def test_loops(self):
        for loop in [(0, 0, 0, ()), (1, 0, 0, (DEED,)), (3, 1, 0, (DEED,))]:
            self.assertIs(is_laid(BARS, (loop,)), False)
            self.assertIs(is_laid(BARS, (loop, DEED)), False)
            self.assertIs(is_laid(BARS, (DEED, loop)), False)

    def test_wrong_items(self):
        for item in BAD_DEEDS + BAD_LOOPS + no_tuples():
            with self.subTest(item):
                self.assertIs(is_laid(BARS, (item,)), False)
                self.assertIs(is_laid(BARS, (DEED, item)), False)
                self.assertIs(is_laid(BARS, (item, OTHER)), False)

    def test_no_tuples(self):
        for thing in no_tuples():
            with self.subTest(thing):
                self.assertIs(is_laid(BARS, thing), False)
        self.assertIs(is_laid(BARS, DEED), False)

    def test_of_this_book_alone(self):
        self.assertIs(is_laid(BARS.without("lie"), (DEED,)), False)
        self.assertIs(is_laid(BARS.without("lie"), (OTHER,)), True)


class TestBadScript(unittest.TestCase):
    def assert_bad(self, part, deeds):
        """The part is the very value that was passed; strings are told by what they are."""
        for called in (change, laid):
            with self.assertRaises(BadScript) as caught:
                called(BARS, deeds)
            if isinstance(part, str):
                self.assertEqual(caught.exception.part, part)
            else:
                self.assertIs(caught.exception.part, part)

    def test_no_tuples(self):
        for thing in no_tuples():
            with self.subTest(thing):
                self.assert_bad("script", thing)

    def test_wrong_items(self):
        for item in BAD_DEEDS + BAD_LOOPS + no_tuples():
            with self.subTest(item):
                self.assert_bad(item, (item,))
                self.assert_bad(item, (*GOOD_ITEMS, item))
                self.assert_bad(item, (DEED, item, None, DEED))

    def test_first_of_several(self):
        for one in (BAD_DEEDS[5], BAD_LOOPS[0], None, []):
            for other in (BAD_DEEDS[0], BAD_LOOPS[7], {}, "lie"):
                self.assert_bad(one, (DEED, one, other))
                self.assert_bad(other, (other, DEED, one))

    def test_the_item_is_told_from_the_top(self):
        for item in BAD_DEEDS + BAD_LOOPS + no_tuples():
            for deep in (1, 2, 3, 9):
                with self.subTest(item, deep=deep):
                    loop = nested(item, deep)
                    self.assert_bad(loop, (DEED, (2, 0, 0, (DEED,)), loop, OTHER))
                    loop = (0, 5, 5, (DEED, (0, 0, 0, ()), nested(item, deep)))
                    self.assert_bad(loop, (loop, None))

    def test_a_tuple_that_is_a_deed(self):
        self.assert_bad("lie", DEED)
        self.assert_bad(2, (2, 0, 0, (DEED,)))

    def test_other_books(self):
        book = BARS.without("stand")
        for called in (change, laid):
            with self.assertRaises(BadScript) as caught:
                called(book, (DEED, OTHER))
            self.assertIs(caught.exception.part, OTHER)

    def test_by_name(self):
        with self.assertRaises(BadScript):
            change(book=BARS, deeds=None)
        with self.assertRaises(BadScript):
            laid(book=BARS, deeds=None)
