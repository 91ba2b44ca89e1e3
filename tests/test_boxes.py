import itertools
import random
import unittest
from collections import namedtuple
from enum import IntEnum
from fractions import Fraction

from bendproof.boxes import Box
from bendproof.errors import NoBox
from bendproof.ratios import minus, over, plus, times
from helping import (assert_own_lists, assert_ratio, assert_refused, fractions, no_ratios, pair, points_in, some_ratio,
                     some_sides, spoil, strange_things)

HALF = (1, 2)
HALF_SIDE = ((-1, 2), (1, 2))
SIDES = [((-1, 1), (2, 1)), ((0, 1), (3, 1)), ((-1, 2), (-1, 3)), ((5, 1), (5, 1)), ((0, 1), (0, 1)), ((-7, 3), (0, 1))]


class Three(IntEnum):
    THREE = 3


Side = namedtuple("Side", "low high")


def great_ratio():
    great = (7, 3)
    for _ in range(13):
        great = times(great, great)
    return great


class Made(unittest.TestCase):
    def test_one_to_six_sides(self):
        for many in range(1, 7):
            self.assertEqual(Box(SIDES[:many]).told(), SIDES[:many])
            self.assertEqual(Box([HALF_SIDE] * many).told(), [HALF_SIDE] * many)

    def test_sides_of_one_ratio_alone(self):
        for one in ((0, 1), (-3, 2), (4, 1)):
            self.assertEqual(Box([(one, one)]).told(), [(one, one)])
            self.assertEqual(Box([(one, one)] * 6).told(), [(one, one)] * 6)

    def test_no_list(self):
        side = HALF_SIDE
        for thing in (None, True, 1, 0, "", "sides", 1.5, (side,), (side, side), side, {}, {0: side}, {side: side},
                      {side}, frozenset([side]), b"", range(2), object(), Box, iter([side]), Box([side])):
            assert_refused(self, NoBox, Box, thing)
        for thing in strange_things():
            assert_refused(self, NoBox, Box, thing)

    def test_none_and_seven_sides(self):
        assert_refused(self, NoBox, Box, [])
        for many in (7, 8, 100):
            assert_refused(self, NoBox, Box, [HALF_SIDE] * many)

    def test_a_side_that_is_no_tuple_of_two(self):
        low, high = HALF_SIDE
        wrong = [[low, high], (), (low,), (low, high, high), {low: high}, "ab", None, 1, {low, high}, low, (low, [high])]
        for side in wrong + strange_things():
            for sides in ([side], [HALF_SIDE, side], [side, HALF_SIDE], [HALF_SIDE] * 5 + [side]):
                assert_refused(self, NoBox, Box, sides)

    def test_a_side_with_what_is_no_ratio(self):
        for thing in no_ratios():
            for side in ((thing, (99, 1)), ((-99, 1), thing), (thing, thing)):
                assert_refused(self, NoBox, Box, [side])
                assert_refused(self, NoBox, Box, [HALF_SIDE, side, HALF_SIDE])

    def test_low_above_high(self):
        for low, high in (((1, 1), (0, 1)), ((1, 2), (1, 3)), ((-1, 3), (-1, 2)), ((0, 1), (-1, 10 ** 900)),
                          ((10 ** 900 + 1, 10 ** 900), (1, 1))):
            assert_refused(self, NoBox, Box, [(low, high)])
            assert_refused(self, NoBox, Box, [HALF_SIDE, (low, high)])
            self.assertEqual(Box([(high, low)]).told(), [(high, low)])

    def test_a_good_box_is_taken_behind_refused_ones(self):
        assert_refused(self, NoBox, Box, [])
        assert_refused(self, NoBox, Box, [((2, 4), (1, 1))])
        self.assertEqual(Box(SIDES).told(), SIDES)

    def test_named_kinds_are_told_plainly(self):
        told = Box([Side((-1, Three.THREE), (Three.THREE, 1))]).told()
        self.assertEqual(told, [((-1, 3), (3, 1))])
        self.assertEqual([type(told[0]), type(told[0][0][1]), type(told[0][1][0])], [tuple, int, int])


class Told(unittest.TestCase):
    def test_lists_handed_in_and_told_are_apart(self):
        handed = list(SIDES)
        box = Box(handed)
        first = box.told()
        assert_own_lists(self, [first, box.told()], handed)
        spoil(handed)
        self.assertEqual(box.told(), SIDES)
        spoil(first)
        self.assertEqual(box.told(), SIDES)
        self.assertTrue(box.has([low for low, _ in SIDES]))
        self.assertEqual(box.ends([(1, 1)] + [(0, 1)] * 6), ((1, 1), (1, 1)))

    def test_a_box_of_what_was_told_tells_the_same(self):
        chance = random.Random(1)
        for many in range(1, 7):
            sides = some_sides(chance, many)
            box = Box(sides)
            self.assertEqual(Box(box.told()).told(), sides)
            self.assertIs(type(box.told()), list)

    def test_boxes_do_not_share_anything(self):
        one = Box([HALF_SIDE])
        other = Box([HALF_SIDE] * 2)
        self.assertEqual([len(one.told()), len(other.told())], [1, 2])
        self.assertTrue(one.has([HALF]))
        self.assertTrue(other.has([HALF, HALF]))


class Has(unittest.TestCase):
    def test_ends_within_and_just_outside(self):
        low, high = (-1, 3), (5, 2)
        near = (1, 10 ** 30)
        box = Box([(low, high)])
        for at in (low, high, (0, 1), (1, 1), plus(low, near), minus(high, near)):
            self.assertIs(box.has([at]), True)
        for at in (minus(low, near), plus(high, near), (-1, 1), (3, 1), (-10 ** 50, 1), (10 ** 50, 1)):
            self.assertIs(box.has([at]), False)

    def test_each_side_counts(self):
        for many in range(1, 7):
            box = Box([((0, 1), (1, 1))] * many)
            for chosen in itertools.product(((0, 1), (1, 1)), repeat=many):
                self.assertIs(box.has(list(chosen)), True)
            for k in range(many):
                for at in ((-1, 9), (10, 9)):
                    point = [HALF] * many
                    self.assertIs(box.has(point), True)
                    point[k] = at
                    self.assertIs(box.has(point), False)

    def test_sides_of_one_ratio_alone(self):
        box = Box([((5, 1), (5, 1)), ((0, 1), (0, 1))])
        self.assertIs(box.has([(5, 1), (0, 1)]), True)
        self.assertIs(box.has([(5, 1), (1, 9)]), False)
        self.assertIs(box.has([(49, 10), (0, 1)]), False)

    def test_too_few_and_too_many(self):
        for many in range(1, 7):
            box = Box([((0, 1), (1, 1))] * many)
            for other in range(9):
                self.assertIs(box.has([HALF] * other), other == many)
                self.assertIs(box.has([(2, 1)] * other), False)

    def test_the_point_stays(self):
        point = [(5, 1), (0, 1)]
        Box(SIDES[:2]).has(point)
        self.assertEqual(point, [(5, 1), (0, 1)])

    def test_what_was_told_whatever_its_size(self):
        great = great_ratio()
        box = Box([(minus((0, 1), great), over((1, 1), great))])
        self.assertEqual(Box(box.told()).told(), box.told())
        self.assertIs(box.has([over((1, 1), great)]), True)
        self.assertIs(box.has([over((2, 1), great)]), False)
        self.assertEqual(box.ends([(0, 1), great]), (minus((0, 1), times(great, great)), (1, 1)))


class Ends(unittest.TestCase):
    def test_by_hand(self):
        box = Box([((-1, 1), (2, 1)), ((0, 1), (3, 1))])
        self.assertEqual(box.ends([(1, 1), (2, 1), (-1, 2)]), ((-5, 2), (5, 1)))
        self.assertEqual(box.ends([(1, 1), (-2, 1), (1, 2)]), ((-3, 1), (9, 2)))
        self.assertEqual(box.ends([(7, 3), (0, 1), (0, 1)]), ((7, 3), (7, 3)))
        self.assertEqual(box.ends([(0, 1), (0, 1), (-1, 1)]), ((-3, 1), (0, 1)))

    def test_least_and_greatest_of_all_corners(self):
        chance = random.Random(3)
        for k in range(200):
            sides = some_sides(chance, 1 + k % 6)
            form = [some_ratio(chance) for _ in range(len(sides) + 1)]
            before = list(form)
            told = Box(sides).ends(form)
            parts = fractions(form)
            values = [parts[0] + sum(a * b for a, b in zip(parts[1:], point)) for point in points_in(sides)]
            self.assertEqual(told, (pair(min(values)), pair(max(values))))
            self.assertIs(type(told), tuple)
            for one in told:
                assert_ratio(self, one)
            self.assertEqual(form, before)

    def test_lowest_terms(self):
        box = Box([((1, 6), (1, 3)), ((1, 3), (2, 3))])
        self.assertEqual(box.ends([(0, 1), (1, 1), (1, 1)]), ((1, 2), (1, 1)))
        self.assertEqual(box.ends([(1, 2), (3, 2), (-3, 4)]), (pair(Fraction(1, 4)), pair(Fraction(3, 4))))


if __name__ == "__main__":
    unittest.main()
