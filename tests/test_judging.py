import copy
import random
import unittest
from fractions import Fraction

from bendproof.boxes import Box
from bendproof.judging import greatest, judged
from bendproof.nets import Net
from bendproof.papers import holds, right_tree
from bendproof.ratios import less, minus, plus, times
from helping import (assert_own_lists, assert_ratio, fractions, layers, leaves_of, pair, points_in, right_by_hand, some_net,
                     some_nets, some_sides, some_terms, spans_by_hand, spoil, terms_at)

NOUGHT = (0, 1)
ONE = (1, 1)
LESS = (-1, 1)
LITTLE = (1, 10 ** 40)


def tent(count):
    """An in from 0 to 1, folded so many times: 2 x where x is not above 1/2, else 2 - 2 x."""
    units = []
    place = 0
    for _ in range(count):
        end = len(units) + 1
        units += [("bend", place), ("sum", (-1, 2), [(place, ONE)]), ("bend", end + 1),
                  ("sum", NOUGHT, [(end, (2, 1)), (end + 2, (-4, 1))])]
        place = end + 3
    return 1, units, [place]


def greatest_by_pieces(units, side, terms):
    """The greatest value of terms over one in, found by parting its side wherever a bend turns."""
    pieces = [(Fraction(*side[0]), Fraction(*side[1]))]
    for k, unit in enumerate(units):
        if unit[0] == "bend":
            parted = []
            for low, high in pieces:
                one, other = terms_at(units[:k], [(unit[1], ONE)], [low]), terms_at(units[:k], [(unit[1], ONE)], [high])
                if one * other < 0:
                    turn = low + (high - low) * one / (one - other)
                    parted += [(low, turn), (turn, high)]
                else:
                    parted.append((low, high))
            pieces = parted
    return max(terms_at(units, terms, [end]) for piece in pieces for end in piece)


class JudgingTest(unittest.TestCase):
    def assert_true(self, parts, sides, saying):
        told = judged(Net(*parts), Box(sides), saying)
        self.assertEqual([type(told), len(told), told[0]], [tuple, 2, "true"])
        self.assert_right(parts, sides, saying, told[1])
        return told[1]

    def assert_right(self, parts, sides, saying, tree):
        self.assertTrue(right_tree(Net(*parts), Box(sides), saying, tree))
        self.assertTrue(right_by_hand(parts, sides, saying, tree))
        for prices in leaves_of(tree):
            self.assertIs(type(prices), list)
            for price in prices:
                assert_ratio(self, price)

    def assert_false(self, parts, sides, saying):
        told = judged(Net(*parts), Box(sides), saying)
        self.assertEqual([type(told), len(told), told[0], type(told[1])], [tuple, 2, "false", list])
        for one in told[1]:
            assert_ratio(self, one)
        self.assertTrue(Box(sides).has(told[1]))
        self.assertFalse(holds(Net(*parts), saying, told[1]))
        self.assertGreater(terms_at(parts[1], saying[0], fractions(told[1])), Fraction(*saying[1]))
        return told[1]

    def assert_greatest(self, parts, sides, terms, expected=None):
        """What greatest tells is so, and judged tells the same of it."""
        told = greatest(Net(*parts), Box(sides), terms)
        self.assertEqual([type(told), len(told), type(told[1])], [tuple, 3, list])
        value, point, tree = told
        assert_ratio(self, value)
        if expected is not None:
            self.assertEqual(value, expected)
        self.assertTrue(Box(sides).has(point))
        self.assertEqual(pair(terms_at(parts[1], terms, fractions(point))), value)
        self.assert_right(parts, sides, (terms, value), tree)
        for bound in (value, plus(value, LITTLE), plus(value, (100, 1))):
            self.assert_true(parts, sides, (terms, bound))
        for bound in (minus(value, LITTLE), minus(value, ONE)):
            self.assert_false(parts, sides, (terms, bound))
        return told


class ByHand(JudgingTest):
    def test_nets_without_bends(self):
        sides = [(LESS, (2, 1)), ((1, 2), (5, 1))]
        parts = (2, [("sum", (1, 3), [(0, (2, 1)), (1, (-3, 1))])], [2])
        self.assert_greatest(parts, sides, [(2, ONE)], (17, 6))
        self.assert_greatest(parts, sides, [(2, LESS)], (50, 3))
        self.assert_greatest((1, [], [0]), [(LESS, (2, 3))], [(0, (3, 1))], (2, 1))
        self.assert_greatest((1, [("sum", (7, 2), [])], [1]), [(LESS, (2, 3))], [(1, LESS)], (-7, 2))

    def test_no_terms(self):
        for parts, sides in (((1, [], [0]), [(LESS, ONE)]), ((1, [("bend", 0)], [1]), [(LESS, ONE)]), (tent(3), [(NOUGHT, ONE)])):
            self.assert_greatest(parts, sides, [], NOUGHT)
            self.assert_greatest(parts, sides, [(0, NOUGHT), (parts[2][0], NOUGHT)], NOUGHT)

    def test_one_bend(self):
        parts = (1, [("bend", 0)], [1])
        for sides, least, most in (([(LESS, (2, 1))], NOUGHT, (2, 1)), ([((-3, 1), LESS)], NOUGHT, NOUGHT),
                                   ([((1, 2), (2, 3))], (1, 2), (2, 3)), ([(LESS, NOUGHT)], NOUGHT, NOUGHT),
                                   ([(NOUGHT, ONE)], NOUGHT, ONE), ([(NOUGHT, NOUGHT)], NOUGHT, NOUGHT)):
            self.assert_greatest(parts, sides, [(1, ONE)], most)
            self.assert_greatest(parts, sides, [(1, LESS)], times(least, LESS))
        # x - 2 Z is -1 at -1, 0 at 0 and -2 at 2.
        self.assert_greatest(parts, [(LESS, (2, 1))], [(0, ONE), (1, (-2, 1))], NOUGHT)
        self.assert_greatest(parts, [(LESS, (2, 1))], [(0, LESS), (1, (2, 1))], (2, 1))

    def test_a_place_twice(self):
        parts = (1, [("bend", 0)], [1])
        self.assert_greatest(parts, [(LESS, (2, 1))], [(1, ONE), (1, ONE)], (4, 1))
        self.assert_greatest(parts, [(LESS, (2, 1))], [(1, ONE), (0, ONE), (1, LESS)], (2, 1))
        self.assert_greatest(parts, [(LESS, (2, 1))], [(1, ONE), (1, LESS)], NOUGHT)

    def test_a_saying_that_needs_a_split(self):
        # The same bend twice: each less the other is nought, yet their variables go apart while both are open.
        parts = (1, [("bend", 0), ("bend", 0)], [1, 2])
        self.assert_greatest(parts, [(LESS, ONE)], [(1, ONE), (2, LESS)], NOUGHT)
        tree = self.assert_true(parts, [(LESS, ONE)], ([(1, ONE), (2, LESS)], NOUGHT))
        self.assertEqual(tree[0], "split")

    def test_greatest_within_the_box_and_not_at_a_corner(self):
        # 2 - |x| - |y - 1/3| is greatest at (0, 1/3).
        units = [("bend", 0), ("sum", NOUGHT, [(0, LESS)]), ("bend", 3), ("sum", (-1, 3), [(1, ONE)]), ("bend", 5),
                 ("sum", NOUGHT, [(5, LESS)]), ("bend", 7), ("sum", (2, 1), [(2, LESS), (4, LESS), (6, LESS), (8, LESS)])]
        parts = (2, units, [9])
        told = self.assert_greatest(parts, [(LESS, (2, 1)), (LESS, ONE)], [(9, ONE)], (2, 1))
        self.assertEqual(told[1], [NOUGHT, (1, 3)])
        self.assert_greatest(parts, [(LESS, (2, 1)), (LESS, ONE)], [(9, LESS)], (4, 3))

    def test_sides_that_are_points(self):
        parts = (2, [("sum", (-1, 2), [(0, ONE), (1, (2, 1))]), ("bend", 2), ("bend", 1)], [3])
        sides = [((1, 3), (1, 3)), ((1, 4), (1, 4))]
        told = self.assert_greatest(parts, sides, [(3, (3, 1)), (4, LESS)], (3, 4))
        self.assertEqual(told[1], [(1, 3), (1, 4)])
        self.assert_greatest(parts, [((1, 3), (1, 3)), (LESS, ONE)], [(3, (3, 1)), (4, LESS)], (9, 2))

    def test_folds(self):
        for count in range(1, 7):
            parts = tent(count)
            out = parts[2][0]
            self.assert_greatest(parts, [(NOUGHT, ONE)], [(out, ONE)], ONE)
            self.assert_greatest(parts, [(NOUGHT, ONE)], [(out, LESS)], NOUGHT)
            self.assert_greatest(parts, [(NOUGHT, (1, 3 * 2 ** count))], [(out, (3, 1))], ONE)


class ByChance(JudgingTest):
    def test_one_in_by_pieces(self):
        chance = random.Random(41)
        for _ in range(60):
            parts = some_net(chance, 1, chance.choice((2, 6, 12, 18)))
            sides = some_sides(chance, 1)
            terms = some_terms(chance, 1 + len(parts[1]))
            expected = greatest_by_pieces(parts[1], sides[0], terms)
            self.assert_greatest(parts, sides, terms, pair(expected))

    def test_several_ins(self):
        chance = random.Random(43)
        splits = 0
        for parts, sides in some_nets(150):
            terms = some_terms(chance, parts[0] + len(parts[1]))
            value, _, tree = self.assert_greatest(parts, sides, terms)
            splits += tree[0] == "split"
            for point in points_in(sides, 3):
                self.assertLessEqual(terms_at(parts[1], terms, point), Fraction(*value))
        self.assertGreater(splits, 3)

    def test_layers_of_bends(self):
        chance = random.Random(47)
        splits = 0
        for many, widths in ((2, (3, 3)), (3, (4, 4)), (4, (3, 3, 3)), (6, (6,)), (5, (4, 2, 1))):
            for _ in range(2):
                parts = layers(chance, many, widths)
                sides = [(LESS, ONE)] * many
                for share in (ONE, (-2, 3)):
                    tree = self.assert_greatest(parts, sides, [(parts[2][0], share)])[2]
                    splits += len(leaves_of(tree)) - 1
        self.assertGreater(splits, 10)


class Bearable(JudgingTest):
    def undecided(self, parts, sides):
        widths = spans_by_hand(parts[1], sides)
        return len([unit for unit in parts[1] if unit[0] == "bend" and widths[unit[1]][0] < 0 < widths[unit[1]][1]])

    def test_twenty_bends_all_but_two_of_them_decided(self):
        units = []
        for k in range(20):
            # The spans are 5 wide to either side: a constant beyond that decides the bend.
            constant = {7: (1, 2), 13: (-1, 3)}.get(k, (6 + k, 1) if k % 2 else (-6 - k, 1))
            units += [("sum", constant, [(0, (2, 1)), (1, (3, 1) if k < 10 else (-3, 1))]), ("bend", 2 + 2 * k)]
        bends = [3 + 2 * k for k in range(20)]
        units.append(("sum", NOUGHT, [(place, ONE if k % 3 else LESS) for k, place in enumerate(bends)]))
        parts = (2, units, [42])
        sides = [(LESS, ONE)] * 2
        self.assertEqual(self.undecided(parts, sides), 2)
        value, _, tree = self.assert_greatest(parts, sides, [(42, ONE)])
        self.assertLessEqual(len(leaves_of(tree)), 4)
        self.assert_greatest(parts, sides, [(42, LESS)])

    def test_twenty_bends_that_are_all_decided(self):
        units = []
        for k in range(20):
            units += [("sum", (30, 1) if k % 2 else (-30, 1), [(0, (k, 1)), (1, (-1, 1))]), ("bend", 2 + 2 * k)]
        units.append(("sum", NOUGHT, [(3 + 2 * k, ONE) for k in range(20)]))
        parts = (2, units, [42])
        sides = [(LESS, ONE)] * 2
        self.assertEqual(self.undecided(parts, sides), 0)
        # Ten are on, each 30 and k x less y, with k 1, 3, 5 and on: 300 and 100 x less 10 y.
        _, _, tree = self.assert_greatest(parts, sides, [(42, ONE)], (410, 1))
        self.assertEqual(tree[0], "leaf")

    def test_twenty_bends_that_are_not_decided(self):
        parts = layers(random.Random(53), 3, (10, 10))
        sides = [(LESS, ONE)] * 3
        self.assertGreater(self.undecided(parts, sides), 15)
        self.assert_greatest(parts, sides, [(parts[2][0], ONE)])

    def test_folds_of_twenty_bends(self):
        parts = tent(9)
        told = greatest(Net(*parts), Box([(NOUGHT, ONE)]), [(parts[2][0], ONE)])
        self.assertEqual(told[0], ONE)
        self.assert_right(parts, [(NOUGHT, ONE)], ([(parts[2][0], ONE)], ONE), told[2])

    def test_many_bends_and_their_likes(self):
        # Seven bends of one in, each twice: only where the turns lie, not how many there are, asks for splits.
        units = []
        for k in range(14):
            units += [("sum", pair(Fraction(k % 7 - 3, 4)), [(0, ONE)]), ("bend", 1 + 2 * k)]
        bends = [2 + 2 * k for k in range(14)]
        parts = (1, units, [1])
        terms = [(place, ONE if k < 7 else LESS) for k, place in enumerate(bends)]
        self.assert_greatest(parts, [(LESS, ONE)], terms, NOUGHT)


class Own(JudgingTest):
    def some(self):
        chance = random.Random(59)
        found = [(parts, sides, some_terms(chance, parts[0] + len(parts[1]))) for parts, sides in some_nets(30)]
        twins = (1, [("bend", 0), ("bend", 0)], [1])
        return found + [(twins, [(LESS, ONE)], [(1, ONE), (2, LESS)]), (layers(chance, 2, (4, 4)), [(LESS, ONE)] * 2, [(18, ONE)])]

    def test_what_is_handed_in_stays_and_what_was_told_is_the_askers_own(self):
        for parts, sides, terms in self.some():
            net = Net(*parts)
            box = Box(sides)
            handed = copy.deepcopy(terms)
            first = greatest(net, box, handed)
            value = first[0]
            saying = (handed, value)
            tellings = [first, greatest(net, box, handed), judged(net, box, saying), judged(net, box, saying),
                        judged(net, box, (handed, minus(value, ONE))), judged(net, box, (handed, minus(value, ONE)))]
            assert_own_lists(self, tellings, [handed])
            for telling in tellings:
                spoil(telling)
            self.assertEqual(handed, terms)
            self.assertEqual(net.told(), parts)
            self.assertEqual(box.told(), sides)
            self.assertEqual(self.assert_greatest(parts, sides, terms)[0], value)
            again = greatest(net, box, handed)
            self.assertEqual(again[0], value)
            self.assertTrue(right_tree(net, box, (handed, value), again[2]))

    def test_a_point_that_was_told_is_apart_from_the_box(self):
        box = Box([(LESS, ONE), (NOUGHT, NOUGHT)])
        net = Net(2, [("bend", 0)], [2])
        point = greatest(net, box, [(0, LESS)])[1]
        self.assertEqual(point, [LESS, NOUGHT])
        spoil(point)
        self.assertEqual(box.told(), [(LESS, ONE), (NOUGHT, NOUGHT)])
        self.assertEqual(greatest(net, box, [(0, LESS)])[1], [LESS, NOUGHT])

    def test_what_was_told_is_handed_in_again_whatever_its_size(self):
        great = (7, 3)
        for _ in range(9):
            great = times(great, great)
        parts = (1, [("sum", great, [(0, times(great, (3, 1)))]), ("bend", 1), ("bend", 0)], [2])
        sides = [(LESS, ONE)]
        value = self.assert_greatest(parts, sides, [(2, great), (3, LESS)])[0]
        self.assertTrue(less((10 ** 300, 1), value))
        told = judged(Net(*parts), Box(sides), ([(2, value)], times(value, value)))
        self.assertIn(told[0], ("true", "false"))


if __name__ == "__main__":
    unittest.main()
