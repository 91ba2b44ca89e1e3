import copy
import random
import unittest
from fractions import Fraction

from bendproof.boxes import Box
from bendproof.nets import Net
from bendproof.ratios import times
from bendproof.smaller import smaller
from helping import (layers, pair, points_in, some_net, some_nets, some_sides, spans_by_hand, spoil, twice_over, walk)

NOUGHT = (0, 1)
ONE = (1, 1)
LESS = (-1, 1)
SIDES = [(LESS, ONE)]


def leading(many, units, outs):
    """The places of the units that lead to an out."""
    found = {place for place in outs if place >= many}
    for place in range(many + len(units) - 1, many - 1, -1):
        if place in found:
            unit = units[place - many]
            stood_on = [unit[1]] if unit[0] == "bend" else [term[0] for term in unit[2]]
            found |= {one for one in stood_on if one >= many}
    return found


def count_bends(units):
    return len([unit for unit in units if unit[0] == "bend"])


class SmallerTest(unittest.TestCase):
    def shrunk(self, parts, sides):
        """The smaller net's parts, once it is as it must be; the net and the box stay."""
        handed = copy.deepcopy(parts)
        net = Net(*handed)
        box = Box(sides)
        found = smaller(net, box)
        self.assertIsInstance(found, Net)
        self.assertEqual(net.told(), parts)
        self.assertEqual(handed, parts)
        self.assertEqual(box.told(), sides)
        told = found.told()
        self.assert_same_outs(parts, told, sides)
        self.assert_small(told, sides)
        self.assertLessEqual(len(told[1]), len(parts[1]))
        self.assertLessEqual(count_bends(told[1]), count_bends(parts[1]))
        return told

    def assert_same_outs(self, parts, told, sides):
        self.assertEqual([told[0], len(told[2])], [parts[0], len(parts[2])])
        for point in points_in(sides, 6):
            before = walk(parts[1], point)
            after = walk(told[1], point)
            self.assertEqual([after[place] for place in told[2]], [before[place] for place in parts[2]])

    def assert_small(self, told, sides):
        many, units, outs = told
        ins_and_bends = list(range(many)) + [many + k for k, unit in enumerate(units) if unit[0] == "bend"]
        widths = spans_by_hand(units, sides)
        for unit in units:
            if unit[0] == "bend":
                low, high = widths[unit[1]]
                self.assertLess(low, 0)
                self.assertGreater(high, 0)
            else:
                places = [place for place, _ in unit[2]]
                self.assertEqual(places, sorted(set(places)))
                self.assertLessEqual(set(places), set(ins_and_bends))
                self.assertNotIn(NOUGHT, [share for _, share in unit[2]])
                self.assertFalse(unit[1] == NOUGHT and [share for _, share in unit[2]] == [ONE])
        self.assertEqual(len({repr(unit) for unit in units}), len(units))
        self.assertEqual(leading(*told), set(range(many, many + len(units))))


class ByHand(SmallerTest):
    def assert_shrunk(self, parts, sides, expected):
        self.assertEqual(self.shrunk(parts, sides), expected)

    def test_outs_that_are_ins(self):
        for outs in ([0], [1, 0], [1, 1, 0, 1]):
            self.assert_shrunk((2, [], outs), SIDES * 2, (2, [], outs))
            self.assert_shrunk((2, [("bend", 0), ("sum", ONE, [(2, ONE)])], outs), SIDES * 2, (2, [], outs))

    def test_sums_that_come_to_an_in_alone(self):
        units = [("sum", NOUGHT, [(0, ONE)]), ("sum", ONE, [(1, (2, 1))]), ("sum", LESS, [(2, ONE), (0, LESS)])]
        self.assert_shrunk((1, units[:1], [1]), SIDES, (1, [], [0]))
        self.assert_shrunk((1, units, [3, 1]), SIDES, (1, [], [0, 0]))
        self.assert_shrunk((1, units, [2]), SIDES, (1, [("sum", ONE, [(0, (2, 1))])], [1]))

    def test_sums_that_come_to_a_constant(self):
        units = [("sum", ONE, [(0, ONE)]), ("sum", (5, 2), [(0, ONE), (1, LESS)]), ("sum", NOUGHT, [(0, NOUGHT)]),
                 ("sum", NOUGHT, [])]
        self.assert_shrunk((1, units, [2]), SIDES, (1, [("sum", (3, 2), [])], [1]))
        self.assert_shrunk((1, units, [3, 4]), SIDES, (1, [("sum", NOUGHT, [])], [1, 1]))

    def test_shares_that_fall_out(self):
        units = [("sum", NOUGHT, [(0, ONE), (1, ONE)]), ("sum", NOUGHT, [(2, ONE), (1, LESS), (0, ONE)])]
        self.assert_shrunk((2, units, [3]), SIDES * 2, (2, [("sum", NOUGHT, [(0, (2, 1))])], [2]))

    def test_terms_rise(self):
        units = [("sum", ONE, [(2, (3, 1)), (0, (2, 1)), (1, LESS)])]
        self.assert_shrunk((3, units, [3]), SIDES * 3, (3, [("sum", ONE, [(0, (2, 1)), (1, LESS), (2, (3, 1))])], [3]))

    def test_units_that_lead_to_no_out(self):
        units = [("sum", ONE, [(0, ONE)]), ("bend", 0), ("bend", 1), ("sum", ONE, [(2, (2, 1))]), ("bend", 4)]
        self.assert_shrunk((1, units, [2]), SIDES, (1, [("bend", 0)], [1]))
        self.assert_shrunk((1, units, [0]), SIDES, (1, [], [0]))

    def test_outs_that_stand_twice(self):
        units = [("bend", 0), ("bend", 0), ("sum", ONE, [(1, ONE)]), ("sum", ONE, [(2, ONE)])]
        self.assert_shrunk((1, units, [3, 4, 1, 2, 3]), SIDES, (1, [("bend", 0), ("sum", ONE, [(1, ONE)])], [2, 2, 1, 1, 2]))

    def test_units_alike_only_once_others_are_made_one(self):
        # Two sums written otherwise, a bend of each, a sum of each bend, a bend of each of these.
        units = [("sum", (1, 4), [(0, ONE), (1, ONE)]), ("sum", NOUGHT, [(1, ONE)]), ("sum", (1, 4), [(3, ONE), (0, ONE)]),
                 ("bend", 2), ("bend", 4), ("sum", (-1, 4), [(5, ONE)]), ("sum", (-1, 4), [(6, ONE)]), ("bend", 7), ("bend", 8)]
        told = self.shrunk((2, units, [9, 10]), SIDES * 2)
        self.assertEqual(told[1], [("sum", (1, 4), [(0, ONE), (1, ONE)]), ("bend", 2), ("sum", (-1, 4), [(3, ONE)]), ("bend", 4)])
        self.assertEqual(told[2], [5, 5])

    def test_bends_that_are_decided(self):
        units = [("sum", (2, 1), [(0, ONE)]), ("bend", 1), ("sum", (-2, 1), [(0, ONE)]), ("bend", 3)]
        self.assert_shrunk((1, units, [2]), SIDES, (1, [("sum", (2, 1), [(0, ONE)])], [1]))
        self.assert_shrunk((1, units, [4]), SIDES, (1, [("sum", NOUGHT, [])], [1]))
        self.assert_shrunk((1, units, [1, 2, 3, 4]), SIDES,
                           (1, [("sum", (2, 1), [(0, ONE)]), ("sum", (-2, 1), [(0, ONE)]), ("sum", NOUGHT, [])], [1, 1, 2, 3]))

    def test_spans_that_touch_nought(self):
        parts = (1, [("bend", 0)], [1])
        self.assert_shrunk(parts, [(NOUGHT, ONE)], (1, [], [0]))
        self.assert_shrunk(parts, [(LESS, NOUGHT)], (1, [("sum", NOUGHT, [])], [1]))
        self.assert_shrunk(parts, [(NOUGHT, NOUGHT)], (1, [], [0]))
        self.assert_shrunk(parts, [((-1, 10 ** 30), ONE)], (1, [("bend", 0)], [1]))
        self.assert_shrunk(parts, [(LESS, (1, 10 ** 30))], (1, [("bend", 0)], [1]))

    def test_bends_of_bends(self):
        units = [("bend", 0), ("bend", 1), ("sum", NOUGHT, [(2, (2, 1))]), ("bend", 3), ("sum", NOUGHT, [(4, LESS)]), ("bend", 5)]
        self.assert_shrunk((1, units, [2]), SIDES, (1, [("bend", 0)], [1]))
        self.assert_shrunk((1, units, [4]), SIDES, (1, [("bend", 0), ("sum", NOUGHT, [(1, (2, 1))])], [2]))
        self.assert_shrunk((1, units, [6]), SIDES, (1, [("sum", NOUGHT, [])], [1]))

    def test_bends_decided_by_a_span_only_in_the_smaller_net(self):
        # 1 + x less x is 1, but its span in the net goes from -1 to 3.
        units = [("sum", ONE, [(0, ONE)]), ("sum", NOUGHT, [(1, ONE), (0, LESS)]), ("bend", 2)]
        self.assertEqual(spans_by_hand(units, SIDES)[2], (-1, 3))
        self.assert_shrunk((1, units, [3]), SIDES, (1, [("sum", ONE, [])], [1]))
        # 1/2 less the bend of 1/2 + x less x.
        units = [("sum", (1, 2), [(0, ONE)]), ("sum", NOUGHT, [(1, ONE), (0, LESS)]), ("bend", 2),
                 ("sum", (1, 2), [(3, LESS), (0, (2, 1))]), ("bend", 4)]
        self.assert_shrunk((1, units, [5]), SIDES, (1, [("sum", NOUGHT, [(0, (2, 1))]), ("bend", 1)], [2]))

    def test_sides_that_are_points(self):
        units = [("sum", (-1, 2), [(0, ONE), (1, (2, 1))]), ("bend", 2), ("bend", 1)]
        sides = [((1, 3), (1, 3)), ((-1, 4), (-1, 4))]
        told = self.shrunk((2, units, [3, 4]), sides)
        self.assertEqual(count_bends(told[1]), 0)
        told = self.shrunk((2, units, [3, 4]), [((1, 3), (1, 3)), (LESS, ONE)])
        self.assertEqual(count_bends(told[1]), 2)

    def test_a_net_that_is_small_already_stays(self):
        parts = (2, [("sum", (1, 3), [(0, ONE), (1, LESS)]), ("bend", 2), ("bend", 0), ("sum", LESS, [(1, ONE), (3, ONE), (4, LESS)])],
                 [5, 3, 1])
        told = self.shrunk(parts, SIDES * 2)
        self.assertEqual([len(told[1]), count_bends(told[1])], [4, 2])

    def test_outside_of_the_box_nothing_is_asked(self):
        parts = (1, [("bend", 0)], [1])
        found = smaller(Net(*parts), Box([(ONE, (2, 1))]))
        self.assertEqual(found.outs_at([(3, 2)]), [(3, 2)])


class ByChance(SmallerTest):
    def some(self):
        chance = random.Random(61)
        found = some_nets(80)
        for many in (1, 2, 3, 6):
            for _ in range(4):
                found.append((some_net(chance, many, 60), some_sides(chance, many)))
        for many, widths in ((2, (4, 4)), (3, (10, 10)), (6, (7,))):
            found.append((layers(chance, many, widths), [(LESS, ONE)] * many))
        return found

    def test_some_nets(self):
        bends = 0
        for parts, sides in self.some():
            bends += count_bends(self.shrunk(parts, sides)[1])
        self.assertGreater(bends, 40)

    def test_the_smaller_net_of_a_smaller_net(self):
        chance = random.Random(67)
        for parts, sides in self.some()[::2]:
            once = self.shrunk(parts, sides)
            twice = self.shrunk(once, sides)
            self.assertEqual([len(twice[1]), count_bends(twice[1])], [len(once[1]), count_bends(once[1])])
            other = some_sides(chance, parts[0])
            self.shrunk(once, other)
            narrow = [(pair(Fraction(*low) * Fraction(2, 3) + Fraction(*high) / 3), high) for low, high in sides]
            self.assert_same_outs(parts, self.shrunk(once, narrow), narrow)

    def test_eighty_units_of_which_each_stands_on_those_ahead(self):
        parts = (1, twice_over(), [80, 77])
        told = self.shrunk(parts, [(LESS, ONE)])
        self.assertLess(len(told[1]), 60)


class Own(SmallerTest):
    def test_the_net_that_is_told_is_apart_from_all_else(self):
        parts = (1, [("bend", 0), ("sum", ONE, [(1, ONE), (0, LESS)])], [2, 1])
        net = Net(*parts)
        box = Box(SIDES)
        found = smaller(net, box)
        before = found.told()
        spoil(found.told())
        spoil(net.told())
        spoil(box.told())
        self.assertEqual(found.told(), before)
        self.assertEqual(net.told(), parts)
        self.assertEqual(smaller(net, box).told(), before)

    def test_numbers_of_many_figures(self):
        great = (7, 3)
        for _ in range(10):
            great = times(great, great)
        self.shrunk((1, [("sum", great, [(0, great)]), ("sum", great, [(1, great)]), ("bend", 2), ("sum", LESS, [(3, great)])], [4]),
                    [((-2, 1), (2, 1))])


if __name__ == "__main__":
    unittest.main()
