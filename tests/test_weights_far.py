"""Promise [15]: weight_far, the weight of a repeated stand."""

import random
import unittest
from itertools import product

from sheetmoves.colourings import weight, weight_far
from sheetmoves.stands import Stand

ONE = Stand("a", ((0, 0, "a", 1),))
THREES = (3, 3, 1, (((0, 1, 2),),))
WIDE = (1000, 3, 2, (((0, 1, 20), (3, 4, 500)), ((6, 70, 8), (9, 0, 1))))
SOME = Stand("ab", ((-4, 3, "b", 7), (0, 0, "a", 1), (0, 0, "b", -2), (5, 1, "a", 13)))


def repeated(stand, steps):
    """The repeated stand, made one by one."""
    total = Stand(stand.kinds)
    for counts in product(*(range(many) for many, _, _ in steps)):
        dx = sum(k * step[1] for k, step in zip(counts, steps))
        dy = sum(k * step[2] for k, step in zip(counts, steps))
        total = total + stand.moved((dx, dy))
    return total


def by_remainders(colouring, stand, steps):
    """The weight of the repeated stand, where each many is told by the remainders of k modulo a * b."""
    m, a, b, _ = colouring
    size = a * b
    total = 0
    for firsts in product(range(size), repeat=len(steps)):
        often = 1
        for first, (many, _, _) in zip(firsts, steps):
            often *= max(0, (many - first + size - 1) // size)
        dx = sum(first * step[1] for first, step in zip(firsts, steps))
        dy = sum(first * step[2] for first, step in zip(firsts, steps))
        total += often * weight(colouring, stand.moved((dx, dy)))
    return total % m


class TestFew(unittest.TestCase):
    def assert_as_one_by_one(self, colouring, stand, steps):
        with self.subTest(steps):
            self.assertEqual(weight_far(colouring, stand, steps), weight(colouring, repeated(stand, steps)))

    def test_no_step(self):
        self.assertEqual(weight_far(WIDE, SOME, ()), weight(WIDE, SOME))
        self.assertEqual(weight_far(THREES, ONE.moved((2, 0)), ()), 2)

    def test_one_step(self):
        for many, dx, dy in product(range(9), range(-4, 5), range(-3, 4)):
            self.assert_as_one_by_one(WIDE, SOME, ((many, dx, dy),))

    def test_two_and_three_steps(self):
        source = random.Random(3)
        for length in (2, 3):
            for _ in range(80):
                steps = tuple((source.randrange(8 - length), source.randrange(-5, 6), source.randrange(-5, 6))
                              for _ in range(length))
                self.assert_as_one_by_one(WIDE, SOME, steps)

    def test_many_0(self):
        for steps in [((0, 1, 0),), ((0, 0, 0),), ((0, 1, 0), (5, 0, 1)), ((5, 0, 1), (0, 1, 0)),
                      ((10 ** 40, 1, 1), (0, 0, 0), (10 ** 40, 1, 0))]:
            self.assertEqual(weight_far(WIDE, SOME, steps), 0)
            self.assertEqual(weight_far(THREES, ONE.moved((1, 0)), steps), 0)

    def test_many_1(self):
        for steps in [((1, 5, 5),), ((1, 5, 5), (1, -1, 0), (1, 0, 0))]:
            self.assertEqual(weight_far(WIDE, SOME, steps), weight(WIDE, SOME))

    def test_steps_that_stand_still(self):
        for many in (1, 2, 7, 10 ** 30, 10 ** 40):
            self.assertEqual(weight_far(WIDE, SOME, ((many, 0, 0),)), many * weight(WIDE, SOME) % 1000)
            self.assertEqual(weight_far(WIDE, SOME, ((many, 3, -2),)), many * weight(WIDE, SOME) % 1000)
            self.assertEqual(weight_far(WIDE, SOME, ((many, 0, 0), (many, 0, 0), (2, 0, 0))),
                             many * many * 2 * weight(WIDE, SOME) % 1000)

    def test_the_empty_stand(self):
        self.assertEqual(weight_far(WIDE, Stand("ab"), ((10 ** 40, 1, 0),)), 0)

    def test_by_name(self):
        self.assertEqual(weight_far(colouring=THREES, stand=ONE, steps=((2, 1, 0),)), 1)


class TestMany(unittest.TestCase):
    def test_example(self):
        self.assertEqual(weight_far(THREES, ONE, ((10 ** 30, 1, 0),)), 0)
        self.assertEqual(weight_far(THREES, ONE, ((10 ** 30 + 1, 1, 0),)), 1)
        self.assertEqual(weight_far(THREES, ONE, ((10 ** 30 - 1, 1, 0),)), 0)
        self.assertEqual(weight_far(THREES, ONE.moved((1, 0)), ((10 ** 30, 1, 0),)), 1)

    def test_a_rectangle(self):
        # Rows of five cells weigh 0 + 1 + 2 + 3 + 4 times 1; columns of 10 ** 40 cells are multiples of 5.
        fives = (5, 5, 1, (((0, 1, 2, 3, 4),),))
        self.assertEqual(weight_far(fives, ONE, ((10 ** 40, 1, 0), (7, 0, 1))), 0)
        self.assertEqual(weight_far(fives, ONE, ((10 ** 40 + 2, 1, 0), (7, 0, 1))), 2)
        self.assertEqual(weight_far(fives, ONE, ((10 ** 40 + 4, 1, 0), (7, 0, 1))), 2)

    def test_by_remainders(self):
        source = random.Random(4)
        for length in (1, 2, 3):
            for _ in range(20):
                steps = tuple((10 ** source.choice((2, 30, 40)) - source.randrange(9), source.choice((-1, 1)) * source.randrange(10 ** 9),
                               source.choice((-1, 1)) * source.randrange(10 ** 9)) for _ in range(length))
                with self.subTest(steps):
                    self.assertEqual(weight_far(WIDE, SOME, steps), by_remainders(WIDE, SOME, steps))

    def test_steps_in_another_order(self):
        steps = ((10 ** 40, 1, 2), (10 ** 30 + 1, -2, 1), (17, 5, 0))
        found = weight_far(WIDE, SOME, steps)
        self.assertEqual(weight_far(WIDE, SOME, steps[::-1]), found)
        self.assertEqual(weight_far(WIDE, SOME, (steps[1], steps[2], steps[0])), found)

    def test_in_two_parts(self):
        # The second part begins where the first one ends.
        for many in (5, 10 ** 30 + 3, 10 ** 40):
            for part in (0, 1, 4, 5):
                one = weight_far(WIDE, SOME, ((part, 2, -1),))
                other = weight_far(WIDE, SOME.moved((2 * part, -part)), ((many - part, 2, -1),))
                self.assertEqual(weight_far(WIDE, SOME, ((many, 2, -1),)), (one + other) % 1000)

    def test_far_stands(self):
        far = SOME.moved((10 ** 9 - 10, 10 - 10 ** 9)) * 10 ** 38
        steps = ((10 ** 40 - 1, 10 ** 9, -10 ** 9), (10 ** 40 - 7, -10 ** 9, 1))
        self.assertEqual(weight_far(WIDE, far, steps), by_remainders(WIDE, far, steps))

    def test_great_m(self):
        m = 10 ** 40
        colouring = (m, 2, 2, (((m - 1, 1), (7, 10 ** 39)),))
        steps = ((m, 1, 0), (m - 1, 1, 1))
        self.assertEqual(weight_far(colouring, ONE * (10 ** 40 - 1), steps), by_remainders(colouring, ONE * (10 ** 40 - 1), steps))

    def test_tables_of_four_hundred_numbers(self):
        stand = Stand("a", tuple((x, x * x, "a", x - 200) for x in range(200)))
        for a, b in ((20, 20), (400, 1), (1, 400), (16, 25), (397, 1), (19, 21)):
            m = 10 ** 40 - 9
            table = tuple(tuple(pow(7, y * a + x, m) for x in range(a)) for y in range(b))
            colouring = (m, a, b, (table,))
            for steps in [((10 ** 40, 1, 1),), ((10 ** 40, 1, 1), (10 ** 30, 7, -10 ** 9), (10 ** 40 - 1, 5, 8))]:
                found = weight_far(colouring, stand, steps)
                self.assertTrue(0 <= found < m)
            with self.subTest(sides=(a, b)):
                self.assertEqual(weight_far(colouring, stand, ((6, -3, 7), (5, 8, 1))),
                                 weight(colouring, repeated(stand, ((6, -3, 7), (5, 8, 1)))))
                self.assertEqual(weight_far(colouring, ONE, ((10 ** 40 + 3, 1, 1),)), by_remainders(colouring, ONE, ((10 ** 40 + 3, 1, 1),)))

    def test_arguments_stay(self):
        steps = ((10 ** 40, 1, 2), (3, 0, 1))
        kept = repr((WIDE, SOME.entries, steps))
        weight_far(WIDE, SOME, steps)
        self.assertEqual(repr((WIDE, SOME.entries, steps)), kept)
