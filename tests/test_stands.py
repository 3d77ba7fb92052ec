"""Promise [4] and, but for texts, the interface of sheetmoves/stands.py."""

import unittest
from itertools import product

from sheetmoves import stands
from sheetmoves.books import Book
from sheetmoves.errors import BadBook, BadStand, OtherKinds, SheetError
from sheetmoves.stands import Stand, is_kinds

ONE = Stand("a", ((0, 0, "a", 1),))
NONE = Stand("a")
LETTERS = "abcdefghijklmnopqrstuvwxyz"


def any_values():
    return [
        None, True, False, 0, 1, -1, 10 ** 400, "", "a", "ab", "kinds a", " ", "\n", "x" * 20000,
        (), ("a",), (0, 0), ((0, 0, "a", 1),), [], ["a"], [0, 0], {}, {"a": 1}, [[[()]]],
        ONE, NONE, Stand("ab"), Book("a", (("lie", ((0, 0, "a", 1),)),)),
    ]


def many_stands():
    """Each stand with numbers from -1 to 1 at three places of two kinds."""
    places = ((-1, 2, "a"), (0, -3, "b"), (0, 1, "a"))
    found = []
    for numbers in product((-1, 0, 1), repeat=3):
        rows = zip(places, numbers)
        found.append(Stand("ab", tuple((*place, number) for place, number in rows if number)))
    return found


def numbers_of(stand):
    return {(x, y, kind): number for x, y, kind, number in stand.entries}


def stand_of(kinds, numbers):
    """A stand with told numbers, zeros among them, made with nothing but sorting."""
    return Stand(kinds, tuple(sorted((*place, numbers[place]) for place in numbers if numbers[place])))


class TestKinds(unittest.TestCase):
    def test_right_ones(self):
        for kinds in [*LETTERS, "ab", "az", "yz", "abc", "xyz", "amz"]:
            with self.subTest(kinds):
                self.assertIs(is_kinds(kinds), True)

    def test_each_pair_of_letters(self):
        for one, other in product(LETTERS, LETTERS):
            with self.subTest(one + other):
                self.assertIs(is_kinds(one + other), one < other)

    def test_each_three_of_some_letters(self):
        for one, other, third in product("abyz", repeat=3):
            with self.subTest(one + other + third):
                self.assertIs(is_kinds(one + other + third), one < other < third)

    def test_wrong_strings(self):
        for kinds in ["", "ba", "acb", "bac", "cba", "aa", "aab", "abb", "aba", "abcd", "abcde", LETTERS,
                      "A", "Z", "Ab", "aB", "AB", "1", "a1", "0a", "_", "`", "{", "@", "[", "a{", "`a", " ", " a",
                      "a ", "a b", "\n", "a\n", "\na", "a,b", "-", "a" * 20000]:
            with self.subTest(kinds):
                self.assertIs(is_kinds(kinds), False)

    def test_no_strings(self):
        for thing in any_values():
            if not isinstance(thing, str):
                with self.subTest(thing):
                    self.assertIs(is_kinds(thing), False)
        for thing in (["a", "b"], ("a", "b"), {"a": "b"}, [["a"]]):
            self.assertIs(is_kinds(thing), False)

    def test_by_name(self):
        self.assertIs(is_kinds(thing="ab"), True)
        self.assertIs(is_kinds(thing=["ab"]), False)

    def test_defined_here(self):
        self.assertEqual(is_kinds.__module__, "sheetmoves.stands")
        self.assertEqual(Stand.__module__, "sheetmoves.stands")
        for name in ("__init__", "__add__", "__sub__", "__mul__", "moved", "__getitem__", "__contains__",
                     "__len__", "__eq__", "box", "__str__", "read"):
            self.assertIn(name, vars(stands.Stand))


class TestMaking(unittest.TestCase):
    def assert_bad(self, part, kinds, entries):
        """The part is the very value; strings are told by what they are."""
        with self.assertRaises(BadStand) as caught:
            Stand(kinds, entries)
        if isinstance(part, str):
            self.assertEqual(caught.exception.part, part)
        else:
            self.assertIs(caught.exception.part, part)

    def test_attributes(self):
        entries = ((-1, 5, "b", 3), (0, 0, "a", -2), (0, 0, "b", 10 ** 40), (0, 1, "a", 1))
        stand = Stand("ab", entries)
        self.assertEqual((stand.kinds, stand.entries), ("ab", entries))

    def test_by_name_and_without_entries(self):
        entries = ((0, 0, "a", 1),)
        self.assertEqual(Stand(entries=entries, kinds="a").entries, entries)
        self.assertEqual(Stand("a", entries=entries).entries, entries)
        for stand in (Stand("ab"), Stand(kinds="ab"), Stand("ab", ())):
            self.assertEqual((stand.kinds, stand.entries), ("ab", ()))

    def test_kinds_come_first(self):
        for kinds in any_values():
            if not is_kinds(kinds):
                with self.subTest(kinds):
                    self.assert_bad("kinds", kinds, ())
                    self.assert_bad("kinds", kinds, None)
                    self.assert_bad("kinds", kinds, ((0, 0, "z", 0), (0, 0)))
        for kinds in ("", "ba", "aa", "abcd", "A", " a"):
            self.assert_bad("kinds", kinds, ((0, 0, "a", 1),))

    def test_entries_that_are_no_tuple(self):
        for entries in any_values():
            if not isinstance(entries, tuple):
                with self.subTest(entries):
                    self.assert_bad("entries", "a", entries)
        self.assert_bad("entries", "a", [(0, 0, "a", 1)])
        self.assert_bad("entries", "a", [(0, 0, "a", 0)])
        self.assert_bad("entries", "a", {(0, 0, "a", 1): True})

    def test_items_of_another_form(self):
        for item in [(), (0, 0, "a"), (0, 0, "a", 1, 1), (0, 0, 1), ((0, 0), "a", 1), (0, 0, 1, "a"),
                     [0, 0, "a", 1], [], {0: 0, 1: 0, 2: "a", 3: 1}, "00a1", "0", ONE, NONE, None, 0, True,
                     (((0, 0, "a", 1)),), [[0, 0, "a", 1]]]:
            with self.subTest(item):
                self.assert_bad(item, "a", (item,))

    def test_items_with_wrong_parts(self):
        for wrong in (True, False, None, "0", "", "a", (), (0,), [], [0], {}, ONE):
            for item in ((wrong, 0, "a", 1), (0, wrong, "a", 1), (0, 0, "a", wrong)):
                with self.subTest(item):
                    self.assert_bad(item, "a", (item,))
        for wrong in (True, False, None, 0, 1, "", "c", "ab", "ba", "A", " ", "a ", "aa", ("a",), ["a"], {"a": 1}, ONE):
            item = (0, 0, wrong, 1)
            with self.subTest(item):
                self.assert_bad(item, "ab", (item,))

    def test_the_number_0(self):
        item = (3, -4, "a", 0)
        self.assert_bad(item, "a", (item,))
        self.assert_bad(item, "a", ((0, 0, "a", 1), item))

    def test_the_first_wrong_item_is_told(self):
        right, one, other = (0, 0, "a", 1), (1, 0, "a", 0), [2, 0, "a", 1]
        self.assert_bad(one, "a", (right, one, other))
        self.assert_bad(other, "a", (right, other, one))
        self.assert_bad(other, "a", (other, right, one))

    def test_a_wrong_item_comes_before_the_order(self):
        item = (5, 5, "z", 1)
        self.assert_bad(item, "a", ((3, 0, "a", 1), (2, 0, "a", 1), item))
        self.assert_bad(item, "a", ((3, 0, "a", 1), (3, 0, "a", 1), item))

    def test_order(self):
        for entries in [
            ((1, 0, "a", 1), (0, 0, "a", 1)),
            ((0, 1, "a", 1), (0, 0, "a", 1)),
            ((0, 0, "b", 1), (0, 0, "a", 1)),
            ((0, 0, "a", 1), (0, 0, "a", 1)),
            ((0, 0, "a", 1), (0, 0, "a", 2)),
            ((0, 0, "a", 2), (0, 0, "a", 1)),
            ((0, 0, "a", -1), (0, 0, "a", 1)),
            ((0, 0, "a", 1), (0, 0, "b", 1), (0, 0, "b", 2)),
            ((10, 0, "a", 1), (2, 0, "a", 1)),
            ((-9, 0, "a", 1), (-10, 0, "a", 1)),
            ((0, 0, "a", 1), (1, 0, "a", 1), (2, 0, "a", 1), (1, 5, "a", 1)),
            ((0, 0, "a", 1), (1, 0, "a", 1), (0, 0, "a", 1)),
        ]:
            with self.subTest(entries):
                self.assert_bad("order", "ab", entries)

    def test_right_orders(self):
        for entries in [
            ((2, 0, "a", 1), (10, 0, "a", 1)),
            ((-10, 0, "a", 1), (-9, 0, "a", 1)),
            ((0, -1, "b", 1), (0, 0, "a", 9), (0, 0, "b", -9), (0, 0, "c", 1)),
            ((-1, 9, "c", 1), (0, 0, "a", 1), (1, -9, "a", 1)),
        ]:
            with self.subTest(entries):
                self.assertEqual(Stand("abc", entries).entries, entries)

    def test_beyond_the_limits(self):
        entries = tuple((x, -x * 10 ** 100, "a", 10 ** 399 + x) for x in range(-3000, 3000))
        stand = Stand("a", entries)
        self.assertEqual(stand.entries, entries)
        self.assertEqual(len(stand), 6000)
        self.assertEqual(stand, Stand("a", tuple(list(entries))))
        self.assertNotEqual(stand, Stand("a", entries[1:]))
        self.assertEqual(stand[2999, -2999 * 10 ** 100, "a"], 10 ** 399 + 2999)
        self.assertEqual(stand.box, (-3000, -2999 * 10 ** 100, 2999, 3000 * 10 ** 100))

    def test_an_error_is_a_sheet_error_and_no_other(self):
        with self.assertRaises(SheetError) as caught:
            Stand("")
        self.assertNotIsInstance(caught.exception, BadBook)

    def test_what_was_passed_stays(self):
        item = [0, 0, "a", 1]
        entries = ((0, 0, "a", 1), item)
        self.assert_bad(item, "a", entries)
        self.assertEqual(entries, ((0, 0, "a", 1), [0, 0, "a", 1]))


class TestSums(unittest.TestCase):
    def test_sums_and_differences_number_by_number(self):
        for one, other in product(many_stands(), repeat=2):
            before = one.entries, other.entries
            left, right = numbers_of(one), numbers_of(other)
            for sign, found in ((1, one + other), (-1, one - other)):
                numbers = {place: left.get(place, 0) + sign * right.get(place, 0) for place in {**left, **right}}
                self.assertIsInstance(found, Stand)
                self.assertEqual(found, stand_of("ab", numbers))
                self.assertEqual(found.entries, tuple(sorted(found.entries)))
            self.assertEqual((one.entries, other.entries), before)

    def test_what_comes_to_0_is_left_out(self):
        two = Stand("a", ((0, 0, "a", 2), (3, 1, "a", 5)))
        self.assertEqual((two - two).entries, ())
        self.assertEqual((two + two * -1).entries, ())
        self.assertEqual((two - Stand("a", ((3, 1, "a", 5),))).entries, ((0, 0, "a", 2),))
        self.assertEqual((two + Stand("a", ((0, 0, "a", -2),))).entries, ((3, 1, "a", 5),))

    def test_entries_ascend(self):
        one = Stand("ab", ((0, 0, "b", 1), (5, 0, "a", 1)))
        other = Stand("ab", ((-3, 9, "a", 1), (0, 0, "a", 7), (5, -1, "b", 1)))
        told = ((-3, 9, "a", 1), (0, 0, "a", 7), (0, 0, "b", 1), (5, -1, "b", 1), (5, 0, "a", 1))
        self.assertEqual((one + other).entries, told)
        self.assertEqual((other + one).entries, told)
        self.assertEqual((one - other).entries, ((-3, 9, "a", -1), (0, 0, "a", -7), (0, 0, "b", 1),
                                                 (5, -1, "b", -1), (5, 0, "a", 1)))

    def test_with_the_empty_stand(self):
        self.assertEqual(ONE + NONE, ONE)
        self.assertEqual(NONE + ONE, ONE)
        self.assertEqual(ONE - NONE, ONE)
        self.assertEqual((NONE - ONE).entries, ((0, 0, "a", -1),))
        self.assertEqual(NONE + NONE, NONE)

    def test_with_itself(self):
        self.assertEqual((ONE + ONE).entries, ((0, 0, "a", 2),))
        self.assertEqual(ONE.entries, ((0, 0, "a", 1),))

    def test_great_numbers(self):
        great = Stand("a", ((10 ** 200, 0, "a", 10 ** 400),))
        self.assertEqual((great + great).entries, ((10 ** 200, 0, "a", 2 * 10 ** 400),))
        self.assertEqual((great - great).entries, ())

    def test_other_kinds(self):
        for one, other in [("a", "b"), ("a", "ab"), ("ab", "a"), ("ab", "abc"), ("b", "a")]:
            for left, right in [(Stand(one), Stand(other)),
                                (Stand(one, ((0, 0, one[0], 1),)), Stand(other, ((0, 0, other[0], 1),))),
                                (Stand(one, ((0, 0, one[0], 1),)), Stand(other))]:
                with self.subTest(one=one, other=other):
                    self.assertRaises(OtherKinds, lambda: left + right)
                    self.assertRaises(OtherKinds, lambda: left - right)


class TestMultiples(unittest.TestCase):
    def test_number_by_number(self):
        for stand in many_stands():
            before = stand.entries
            for times in (-7, -1, 0, 1, 2, 10 ** 40, -10 ** 400):
                found = stand * times
                self.assertIsInstance(found, Stand)
                self.assertEqual(found, stand_of("ab", {k: v * times for k, v in numbers_of(stand).items()}))
            self.assertEqual(stand.entries, before)

    def test_by_0(self):
        found = Stand("abc", ((0, 0, "a", 5), (1, 1, "c", -5))) * 0
        self.assertEqual((found.kinds, found.entries), ("abc", ()))

    def test_by_a_great_integer(self):
        self.assertEqual((Stand("a", ((1, 2, "a", -3),)) * 10 ** 60).entries, ((1, 2, "a", -3 * 10 ** 60),))

    def test_of_the_empty_stand(self):
        self.assertEqual(NONE * 5, NONE)


class TestMoved(unittest.TestCase):
    def test_entries(self):
        stand = Stand("ab", ((-1, 2, "a", 3), (0, 0, "a", 1), (0, 0, "b", -1)))
        found = stand.moved((4, -5))
        self.assertIsInstance(found, Stand)
        self.assertEqual(found.kinds, "ab")
        self.assertEqual(found.entries, ((3, -3, "a", 3), (4, -5, "a", 1), (4, -5, "b", -1)))
        self.assertEqual(stand.entries, ((-1, 2, "a", 3), (0, 0, "a", 1), (0, 0, "b", -1)))

    def test_at_x_plus_dx_what_it_had_at_x(self):
        for stand in many_stands():
            moved = stand.moved((2, -1))
            for x, y, kind in product(range(-2, 2), range(-4, 4), "ab"):
                self.assertEqual(moved[x + 2, y - 1, kind], stand[x, y, kind])

    def test_there_and_back(self):
        for stand in many_stands():
            self.assertEqual(stand.moved((0, 0)), stand)
            self.assertEqual(stand.moved((3, -8)).moved((-3, 8)), stand)

    def test_far(self):
        self.assertEqual(ONE.moved((10 ** 300, -10 ** 300)).entries, ((10 ** 300, -10 ** 300, "a", 1),))
        self.assertEqual(ONE.moved(by=(1, 2)).entries, ((1, 2, "a", 1),))

    def test_the_empty_stand(self):
        self.assertEqual(NONE.moved((5, 5)), NONE)


class TestAsking(unittest.TestCase):
    stand = Stand("abc", ((-1, 2, "a", 3), (0, 0, "a", -7), (0, 0, "c", 10 ** 60)))

    def test_numbers(self):
        told = {(-1, 2, "a"): 3, (0, 0, "a"): -7, (0, 0, "c"): 10 ** 60}
        for x, y, kind in product(range(-3, 4), range(-3, 4), "abc"):
            with self.subTest(x=x, y=y, kind=kind):
                self.assertEqual(self.stand[x, y, kind], told.get((x, y, kind), 0))
        self.assertEqual(NONE[0, 0, "a"], 0)
        self.assertEqual(self.stand[10 ** 100, 0, "a"], 0)

    def test_cells(self):
        for x, y in product(range(-3, 4), range(-3, 4)):
            with self.subTest(x=x, y=y):
                self.assertIs((x, y) in self.stand, (x, y) in ((-1, 2), (0, 0)))
        self.assertIs((0, 0) in NONE, False)
        self.assertIs((10 ** 400, 0) in self.stand, False)

    def test_a_cell_with_another_kind_than_the_first(self):
        self.assertIs((4, 5) in Stand("abc", ((4, 5, "c", 1),)), True)
        self.assertIs((4, 5) in Stand("abc", ((4, 5, "b", 1),)), True)

    def test_other_values_are_no_cells(self):
        for thing in any_values():
            if thing != (0, 0):
                with self.subTest(thing):
                    self.assertIs(thing in self.stand, False)
        square = Stand("a", tuple((x, y, "a", 1) for x in (0, 1) for y in (0, 1)))
        for thing in [(False, False), (True, True), (True, 0), (0, True), (False, 1), (1, False), [0, 0], (0,),
                      (0, 0, "a"), (0, 0, 0), (0, 0, "a", 1), ((0, 0),), ("0", "0"), "00", (None, None),
                      ([0], [0]), ({}, 0), (0, {}), (0, [0]), {0: 0}, (ONE, ONE), (0, ONE), ("a", 0)]:
            with self.subTest(thing):
                self.assertIs(thing in square, False)
        self.assertIs((1, 1) in square, True)

    def test_len(self):
        self.assertEqual([len(NONE), len(ONE), len(self.stand)], [0, 1, 3])

    def test_box(self):
        self.assertIsNone(NONE.box)
        self.assertIsNone(Stand("abc").box)
        self.assertIsNone((ONE - ONE).box)
        self.assertEqual(ONE.box, (0, 0, 0, 0))
        self.assertEqual(Stand("a", ((5, -3, "a", -1),)).box, (5, -3, 5, -3))
        self.assertEqual(self.stand.box, (-1, 0, 0, 2))
        wide = Stand("ab", ((-4, 1, "b", 1), (-2, 9, "a", 1), (3, -8, "a", 1), (7, 2, "b", -1)))
        self.assertEqual(wide.box, (-4, -8, 7, 9))

    def test_box_of_a_moved_stand(self):
        self.assertEqual(self.stand.moved((10, -20)).box, (9, -20, 10, -18))


class TestEqual(unittest.TestCase):
    def test_stands(self):
        found = many_stands()
        for one, other in product(range(len(found)), repeat=2):
            self.assertIs(found[one] == found[other], one == other)
            self.assertIs(found[one] != found[other], one != other)

    def test_two_made_alike(self):
        self.assertTrue(Stand("ab", ((0, 0, "a", 1),)) == Stand("ab", ((0, 0, "a", 1),)))
        self.assertTrue(Stand("a") == Stand("a", ()))

    def test_other_kinds(self):
        for kinds in ("ab", "ac", "abc"):
            self.assertFalse(ONE == Stand(kinds, ONE.entries))
            self.assertFalse(Stand(kinds, ONE.entries) == ONE)
        self.assertFalse(Stand("a") == Stand("b"))

    def test_other_places_and_numbers(self):
        for entry in ((1, 0, "a", 1), (0, 1, "a", 1), (0, 0, "b", 1), (0, 0, "a", 2), (0, 0, "a", -1)):
            self.assertFalse(Stand("ab", ((0, 0, "a", 1),)) == Stand("ab", (entry,)))

    def test_other_values(self):
        for stand in (Stand("abc"), Stand("a", ((7, 7, "a", 7),))):
            for thing in [*any_values(), stand.entries, stand.kinds, (stand.kinds, stand.entries), str(stand), [stand]]:
                with self.subTest(thing):
                    self.assertIs(stand == thing, False)
                    self.assertIs(thing == stand, False)
                    self.assertIs(stand != thing, True)


if __name__ == "__main__":
    unittest.main()
