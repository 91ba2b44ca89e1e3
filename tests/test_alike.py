import copy
import random
import unittest

from bendproof.alike import alike, joined
from bendproof.boxes import Box
from bendproof.errors import NoNet, Unlike
from bendproof.nets import Net
from bendproof.papers import right_tree
from bendproof.ratios import times
from bendproof.smaller import smaller
from helping import (assert_own_lists, assert_refused, fractions, layers, pair, points_in, right_by_hand, some_nets, spoil,
                     walk)

NOUGHT = (0, 1)
ONE = (1, 1)
LESS = (-1, 1)
SIDES = [(LESS, ONE)]
EMPTY_SUM = ("sum", NOUGHT, [])


def rewritten(parts, chance):
    """The same net written otherwise: terms in another order, parted sums, units that do nothing between the others."""
    many, units, outs = parts
    places = list(range(many))
    found = []
    for unit in units:
        if unit[0] == "bend":
            found.append(("bend", places[unit[1]]))
        else:
            terms = [(places[place], share) for place, share in unit[2]]
            chance.shuffle(terms)
            found.append(("sum", unit[1], terms[:1]))
            terms = terms[1:] + [(many + len(found) - 1, ONE)]
            found.append(("sum", NOUGHT, merged(terms)))
        places.append(many + len(found) - 1)
    return many, found, [places[place] for place in outs]


def merged(terms):
    """Terms with each place once."""
    found = {}
    for place, share in terms:
        top, bottom = found.get(place, NOUGHT)
        found[place] = pair(fractions([(top, bottom)])[0] + fractions([share])[0])
    return list(found.items())


def sums(count):
    """A net of so many sums."""
    return 1, [EMPTY_SUM] * count, [0]


def bends(count):
    return 1, [("bend", 0)] * count, [0]


def outs(count):
    return 1, [], [0] * count


class Joined(unittest.TestCase):
    def test_by_hand(self):
        one = (2, [("bend", 1), ("sum", ONE, [(2, LESS), (0, (1, 2))])], [3, 0])
        other = (2, [("sum", LESS, [(1, (3, 1))]), ("bend", 2), ("bend", 0), ("sum", NOUGHT, [(4, ONE), (3, ONE), (1, ONE)])],
                 [1, 5, 2, 5])
        told = joined(Net(*one), Net(*other)).told()
        self.assertEqual(told, (2, one[1] + [("sum", LESS, [(1, (3, 1))]), ("bend", 4), ("bend", 0),
                                             ("sum", NOUGHT, [(6, ONE), (5, ONE), (1, ONE)])], [3, 0, 1, 7, 4, 7]))
        told = joined(Net(*other), Net(*one)).told()
        self.assertEqual(told, (2, other[1] + [("bend", 1), ("sum", ONE, [(6, LESS), (0, (1, 2))])], [1, 5, 2, 5, 7, 0]))

    def test_nets_without_units(self):
        for many in range(1, 7):
            bare = (many, [], [many - 1])
            full = (many, [("bend", many - 1)], [many, 0])
            self.assertEqual(joined(Net(*bare), Net(*bare)).told(), (many, [], [many - 1, many - 1]))
            self.assertEqual(joined(Net(*bare), Net(*full)).told(), (many, full[1], [many - 1, many, 0]))
            self.assertEqual(joined(Net(*full), Net(*bare)).told(), (many, full[1], [many, 0, many - 1]))

    def test_each_nets_values_are_there(self):
        # Every sixth of these nets has as many ins.
        nets = [((parts[0], parts[1][:10], [0, parts[0] - 1]), sides) for parts, sides in some_nets(40)]
        for (one, sides), (other, _) in zip(nets, nets[6:]):
            handed = copy.deepcopy((one, other))
            first = Net(*handed[0])
            second = Net(*handed[1])
            found = joined(first, second)
            self.assertEqual([first.told(), second.told()], [one, other])
            self.assertIsInstance(found, Net)
            many, units, places = found.told()
            for point in points_in(sides, 2)[-3:]:
                values = walk(units, point)
                ahead, behind = walk(one[1], point), walk(other[1], point)
                self.assertEqual(values, ahead + behind[many:])
                self.assertEqual([values[place] for place in places], [ahead[place] for place in one[2]] + [behind[place] for place in other[2]])

    def test_just_as_many_as_a_net_may_have(self):
        for maker, most in ((sums, 80), (bends, 20), (outs, 12)):
            for ahead in (1, most // 2, most - 1):
                parts = joined(Net(*maker(ahead)), Net(*maker(most - ahead))).told()
                self.assertEqual(max(len(parts[1]), len(parts[2])), most)
                assert_refused(self, NoNet, joined, Net(*maker(ahead)), Net(*maker(most - ahead + 1)))
                assert_refused(self, NoNet, joined, Net(*maker(ahead + 1)), Net(*maker(most - ahead)))
            assert_refused(self, NoNet, joined, Net(*maker(most)), Net(*maker(most)))

    def test_nets_with_unlike_numbers_of_ins_are_no_net(self):
        assert_refused(self, NoNet, joined, Net(1, [], [0]), Net(2, [], [1]))
        assert_refused(self, NoNet, joined, Net(3, [("bend", 0)], [3]), Net(2, [], [1]))

    def test_a_refusal_leaves_both_nets(self):
        one, other = Net(*bends(15)), Net(*bends(6))
        assert_refused(self, NoNet, joined, one, other)
        self.assertEqual([one.told(), other.told()], [bends(15), bends(6)])

    def test_what_is_told_is_apart(self):
        parts = (1, [("sum", ONE, [(0, ONE)]), ("bend", 1)], [2])
        net = Net(*parts)
        found = joined(net, net)
        before = found.told()
        spoil(found.told())
        spoil(net.told())
        self.assertEqual(found.told(), before)
        self.assertEqual(net.told(), parts)


class AlikeTest(unittest.TestCase):
    def assert_alike(self, one, other, sides):
        """Alike, either way round, with trees that are right."""
        for ahead, behind in ((one, other), (other, one)):
            first, second, box = Net(*ahead), Net(*behind), Box(sides)
            told = alike(first, second, box)
            self.assertEqual([type(told), len(told), told[0], type(told[1])], [tuple, 2, "alike", list])
            self.assertEqual(len(told[1]), len(ahead[2]))
            both = joined(first, second)
            places = both.told()[2]
            half = len(places) // 2
            for k, trees in enumerate(told[1]):
                self.assertEqual([type(trees), len(trees)], [tuple, 2])
                pairs = ((places[k], places[half + k]), (places[half + k], places[k]))
                for tree, (place, taken) in zip(trees, pairs):
                    saying = ([(place, ONE), (taken, LESS)], NOUGHT)
                    self.assertTrue(right_tree(both, box, saying, tree))
                    self.assertTrue(right_by_hand(both.told(), sides, saying, tree))
            self.assertEqual([first.told(), second.told(), box.told()], [ahead, behind, sides])

    def assert_unlike(self, one, other, sides, k):
        """Unlike, either way round, at the out with this number and a point of the box."""
        for ahead, behind in ((one, other), (other, one)):
            told = alike(Net(*ahead), Net(*behind), Box(sides))
            self.assertEqual([type(told), len(told), told[:2]], [tuple, 3, ("unlike", k)])
            self.assertIs(type(told[1]), int)
            self.assertTrue(Box(sides).has(told[2]))
            first, second = Net(*ahead).outs_at(told[2]), Net(*behind).outs_at(told[2])
            self.assertNotEqual(first[k], second[k])


class Refused(AlikeTest):
    def assert_refused_both_ways(self, refusal, one, other, sides=None):
        for ahead, behind in ((one, other), (other, one)):
            box = Box(sides or [(LESS, ONE)] * ahead[0])
            first, second = Net(*ahead), Net(*behind)
            assert_refused(self, refusal, alike, first, second, box)
            self.assertEqual([first.told(), second.told()], [ahead, behind])

    def test_unlike_numbers_of_ins(self):
        for one, other in ((1, 2), (1, 6), (3, 4)):
            self.assert_refused_both_ways(Unlike, (one, [], [0]), (other, [], [0]))
            self.assert_refused_both_ways(Unlike, (one, [("bend", 0)], [one]), (other, [("bend", 0)], [other]))
            self.assert_refused_both_ways(Unlike, (one, [("bend", 0)] * 20, [0]), (other, [("bend", 0)], [0]))
            self.assert_refused_both_ways(Unlike, (one, [EMPTY_SUM] * 80, [0] * 12), (other, [EMPTY_SUM] * 80, [0] * 12))

    def test_unlike_numbers_of_outs(self):
        for one, other in ((1, 2), (12, 1), (5, 6), (12, 11)):
            self.assert_refused_both_ways(Unlike, (1, [], [0] * one), (1, [], [0] * other))
            self.assert_refused_both_ways(Unlike, (1, [("bend", 0)] * 20, [0] * one), (1, [("bend", 0)], [0] * other))
            self.assert_refused_both_ways(Unlike, (1, [EMPTY_SUM] * 60, [0] * one), (1, [EMPTY_SUM] * 60, [0] * other))

    def test_too_great_together(self):
        self.assert_refused_both_ways(NoNet, sums(80), sums(1))
        self.assert_refused_both_ways(NoNet, sums(41), sums(40))
        self.assert_refused_both_ways(NoNet, bends(20), bends(1))
        self.assert_refused_both_ways(NoNet, bends(11), bends(10))
        self.assert_refused_both_ways(NoNet, outs(7), outs(7))
        self.assert_refused_both_ways(NoNet, outs(12), outs(12))
        self.assert_alike(sums(40), sums(40), SIDES)
        self.assert_alike(bends(10), bends(10), SIDES)
        self.assert_alike(outs(6), outs(6), SIDES)


class Alike(AlikeTest):
    def test_ins_alone(self):
        self.assert_alike((1, [], [0]), (1, [], [0]), SIDES)
        # Where both outs are one place, that place stands in the saying twice.
        self.assert_alike((2, [], [1, 0, 1]), (2, [("bend", 0)], [1, 0, 1]), SIDES * 2)

    def test_a_net_and_itself(self):
        for parts in ((1, [("bend", 0)], [1]), (1, [("bend", 0), ("sum", (-1, 2), [(1, (2, 1)), (0, LESS)]), ("bend", 2)], [3, 1, 0]),
                      (2, [("sum", ONE, [(0, (2, 1)), (1, (-3, 1))]), ("bend", 2), ("bend", 1)], [3, 4, 2])):
            self.assert_alike(parts, parts, SIDES * parts[0])
        for parts, sides in some_nets(40):
            parts = (parts[0], parts[1], parts[2][:6])
            if len([unit for unit in parts[1] if unit[0] == "bend"]) <= 10:
                self.assert_alike(parts, parts, sides)

    def test_a_net_written_another_way(self):
        # The bend of x is half of x and of what x is without its sign.
        bend = (1, [("bend", 0)], [1])
        other = (1, [("sum", NOUGHT, [(0, LESS)]), ("bend", 0), ("bend", 1), ("sum", NOUGHT, [(0, (1, 2)), (2, (1, 2)), (3, (1, 2))])], [4])
        self.assert_alike(bend, other, SIDES)
        # The greater one of x and y: x and the bend of y - x, or y and the bend of x - y.
        one = (2, [("sum", NOUGHT, [(0, LESS), (1, ONE)]), ("bend", 2), ("sum", NOUGHT, [(0, ONE), (3, ONE)])], [4])
        other = (2, [("sum", NOUGHT, [(1, LESS), (0, ONE)]), ("bend", 2), ("sum", NOUGHT, [(1, ONE), (3, ONE)])], [4])
        self.assert_alike(one, other, SIDES * 2)
        chance = random.Random(71)
        for parts, sides in some_nets(40):
            parts = (parts[0], parts[1], parts[2][:4])
            if len([unit for unit in parts[1] if unit[0] == "bend"]) <= 10:
                self.assert_alike(parts, rewritten(parts, chance), sides)

    def test_a_net_and_its_smaller_one(self):
        chance = random.Random(73)
        nets = [((parts[0], parts[1], parts[2][:6]), sides) for parts, sides in some_nets(50)]
        nets += [(layers(chance, many, widths), [(LESS, ONE)] * many) for many, widths in ((1, (5, 5)), (2, (4, 3)), (4, (4, 2)))]
        split = False
        for parts, sides in nets:
            less_of_it = smaller(Net(*parts), Box(sides)).told()
            if len([unit for unit in parts[1] + less_of_it[1] if unit[0] == "bend"]) <= 20:
                self.assert_alike(parts, less_of_it, sides)
                split = split or len(less_of_it[1]) > 6
        self.assertTrue(split)

    def test_nets_that_differ_outside_of_the_box_alone(self):
        bend, bare = (1, [("bend", 0)], [1]), (1, [], [0])
        self.assert_alike(bend, bare, [(NOUGHT, ONE)])
        self.assert_unlike(bend, bare, [((-1, 10 ** 40), ONE)], 0)
        self.assert_alike(bend, (1, [EMPTY_SUM], [1]), [(LESS, NOUGHT)])
        self.assert_unlike(bend, (1, [EMPTY_SUM], [1]), [(LESS, (1, 10 ** 40))], 0)
        self.assert_alike((2, [], [0]), (2, [], [1]), [(ONE, ONE)] * 2)


class UnlikeOuts(AlikeTest):
    def test_the_first_out_that_differs(self):
        units = [("bend", 0), ("sum", NOUGHT, [(0, ONE)]), ("sum", (1, 10 ** 40), [(1, ONE)])]
        one = (1, units, [1, 1, 1, 1])
        for outs_of, k in (([0, 1, 1, 1], 0), ([1, 0, 0, 1], 1), ([1, 1, 3, 0], 2), ([1, 1, 1, 3], 3), ([1, 1, 1, 2], 3)):
            self.assert_unlike(one, (1, units, outs_of), SIDES, k)
        self.assert_alike(one, one, SIDES)

    def test_outs_that_differ_in_one_direction_alone(self):
        # The one is never above the other, which is at times.
        one = (1, [("bend", 0)], [0, 1])
        other = (1, [("bend", 0)], [0, 0])
        self.assert_unlike(one, other, SIDES, 1)
        self.assert_unlike(one, (1, [("bend", 0), ("sum", ONE, [(1, ONE)])], [0, 2]), SIDES, 1)

    def test_outs_that_differ_in_a_small_part_of_the_box(self):
        # The bend of x - 999/1000 is nought elsewhere.
        one = (2, [("sum", (-999, 1000), [(0, ONE)]), ("bend", 2)], [1, 3])
        other = (2, [EMPTY_SUM], [1, 2])
        self.assert_unlike(one, other, SIDES * 2, 1)
        self.assert_alike(one, other, [(LESS, (999, 1000)), (LESS, ONE)])

    def test_points_are_the_askers_own(self):
        one, other = Net(1, [("bend", 0)], [1]), Net(1, [], [0])
        box = Box(SIDES)
        first = alike(one, other, box)
        assert_own_lists(self, [first, alike(one, other, box)])
        spoil(first)
        told = alike(one, other, box)
        self.assertTrue(box.has(told[2]))
        self.assertEqual(box.told(), SIDES)


class Own(AlikeTest):
    def test_trees_are_the_askers_own(self):
        parts = (1, [("bend", 0), ("sum", ONE, [(1, LESS)]), ("bend", 2)], [3, 1, 3, 0])
        net = Net(*parts)
        box = Box(SIDES)
        first = alike(net, net, box)
        assert_own_lists(self, [first, alike(net, net, box)])
        spoil(first)
        self.assertEqual(net.told(), parts)
        self.assert_alike(parts, parts, SIDES)

    def test_numbers_of_many_figures(self):
        great = (7, 3)
        for _ in range(8):
            great = times(great, great)
        one = (1, [("sum", NOUGHT, [(0, great)]), ("bend", 1)], [2])
        other = (1, [("bend", 0), ("sum", NOUGHT, [(1, great)])], [2])
        self.assert_alike(one, other, SIDES)


if __name__ == "__main__":
    unittest.main()
