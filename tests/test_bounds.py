import unittest
from fractions import Fraction

from bendproof.bounds import bounds, slants, spans
from bendproof.boxes import Box
from bendproof.nets import Net
from bendproof.ratios import times
from helping import (assert_own_lists, assert_ratio, fractions, pair, pairs, points_in, some_nets, spans_by_hand,
                     spoil, twice_over, walk)

NOUGHT = (0, 1)
ONE = (1, 1)


def at(form, point):
    parts = fractions(form)
    return parts[0] + sum(a * b for a, b in zip(parts[1:], point))


def ends(form, sides):
    values = [at(form, point) for point in points_in(sides, 0)]
    return min(values), max(values)


def expected_slants(units, sides):
    """Forms as lists of fractions, reckoned apart from the program."""
    many = len(sides)
    found = [([Fraction(k == place + 1) for k in range(many + 1)],) * 2 for place in range(many)]
    for unit in units:
        if unit[0] == "sum":
            both = [[Fraction(*unit[1])] + [Fraction(0)] * many for _ in range(2)]
            for place, share in unit[2]:
                for k in (0, 1):
                    taken = found[place][k if share[0] >= 0 else 1 - k]
                    both[k] = [a + Fraction(*share) * b for a, b in zip(both[k], taken)]
            found.append(tuple(both))
        else:
            found.append(expected_bend(found[unit[1]], sides))
    return found


def expected_bend(slanted, sides):
    under, above = slanted
    noughts = [Fraction(0)] * len(under)
    low, high = ends(pairs(under), sides)[0], ends(pairs(above), sides)[1]
    if low >= 0:
        return under, above
    if high <= 0:
        return noughts, noughts
    lifted = [above[0] - low] + above[1:]
    return (under if high > -low else noughts), [part * high / (high - low) for part in lifted]


class BoundTest(unittest.TestCase):
    def of(self, ask, units, sides):
        return ask(Net(len(sides), units, [0]), Box(sides))


class Spans(BoundTest):
    def test_sums_with_shares_of_either_sign_and_nought(self):
        sides = [((-1, 1), (2, 1)), (NOUGHT, (3, 1))]
        units = [("sum", ONE, [(0, (2, 1)), (1, (-1, 2))]), ("sum", (-1, 3), [(1, NOUGHT), (0, (-1, 1))]),
                 ("sum", (5, 2), []), ("sum", NOUGHT, [(2, (-2, 1)), (3, (1, 3))])]
        told = self.of(spans, units, sides)
        self.assertEqual(told, sides + [((-5, 2), (5, 1)), ((-7, 3), (2, 3)), ((5, 2), (5, 2)), ((-97, 9), (47, 9))])

    def test_bends_below_above_and_across_nought(self):
        for low, high, expected in (((-3, 1), (-1, 2), (NOUGHT, NOUGHT)), ((-3, 1), NOUGHT, (NOUGHT, NOUGHT)),
                                    ((1, 2), (3, 1), ((1, 2), (3, 1))), (NOUGHT, (3, 1), (NOUGHT, (3, 1))),
                                    ((-3, 1), (1, 2), (NOUGHT, (1, 2))), (NOUGHT, NOUGHT, (NOUGHT, NOUGHT)),
                                    ((-1, 2), (-1, 2), (NOUGHT, NOUGHT)), ((2, 1), (2, 1), ((2, 1), (2, 1)))):
            told = self.of(spans, [("bend", 0), ("bend", 1), ("sum", NOUGHT, [(1, (-1, 1))])], [(low, high)])
            self.assertEqual(told[:3], [(low, high), expected, expected])
            self.assertEqual(told[3], (times(expected[1], (-1, 1)), times(expected[0], (-1, 1))))

    def test_sides_that_are_points(self):
        units = [("sum", (-1, 2), [(0, (2, 3)), (1, (-1, 1))]), ("bend", 2)]
        told = self.of(spans, units, [((3, 1), (3, 1)), (ONE, ONE)])
        self.assertEqual(told[2:], [((1, 2), (1, 2))] * 2)

    def test_some_by_chance(self):
        for (many, units, outs), sides in some_nets():
            told = spans(Net(many, units, outs), Box(sides))
            self.assertEqual(told, [(pair(low), pair(high)) for low, high in spans_by_hand(units, sides)])
            self.assertIs(type(told), list)
            for span in told:
                self.assertEqual([type(span), len(span)], [tuple, 2])
                for one in span:
                    assert_ratio(self, one)


class Slants(BoundTest):
    def test_an_in_is_itself(self):
        for many in range(1, 7):
            told = self.of(slants, [], [((-1, 1), ONE)] * many)
            for place in range(many):
                form = [NOUGHT] * (many + 1)
                form[place + 1] = ONE
                self.assertEqual(told[place], (form, form))

    def test_low_from_nought_on(self):
        for low, high in ((NOUGHT, ONE), (ONE, (2, 1)), (NOUGHT, NOUGHT), ((1, 3), (1, 3))):
            told = self.of(slants, [("bend", 0)], [(low, high)])
            self.assertEqual(told[1], ([NOUGHT, ONE], [NOUGHT, ONE]))

    def test_high_not_above_nought(self):
        for low, high in (((-1, 1), NOUGHT), ((-2, 1), (-1, 1)), ((-1, 3), (-1, 3))):
            told = self.of(slants, [("bend", 0)], [(low, high)])
            self.assertEqual(told[1], ([NOUGHT, NOUGHT], [NOUGHT, NOUGHT]))

    def test_between_with_high_greater(self):
        told = self.of(slants, [("bend", 0)], [((-1, 1), (2, 1))])
        self.assertEqual(told[1], ([NOUGHT, ONE], [(2, 3), (2, 3)]))

    def test_between_with_high_not_greater(self):
        told = self.of(slants, [("bend", 0)], [((-2, 1), ONE)])
        self.assertEqual(told[1], ([NOUGHT, NOUGHT], [(2, 3), (1, 3)]))
        told = self.of(slants, [("bend", 0)], [((-1, 1), ONE)])
        self.assertEqual(told[1], ([NOUGHT, NOUGHT], [(1, 2), (1, 2)]))

    def test_sums_of_bends_exchange_by_the_share(self):
        units = [("bend", 0), ("sum", (5, 1), [(1, (-3, 1)), (0, ONE)]), ("sum", NOUGHT, [(2, (-1, 1)), (1, (1, 2))])]
        told = self.of(slants, units, [((-1, 1), (2, 1))])
        self.assertEqual(told[2], ([(3, 1), (-1, 1)], [(5, 1), (-2, 1)]))
        self.assertEqual(told[3], ([(-5, 1), (5, 2)], [(-8, 3), (4, 3)]))

    def test_a_share_of_nought_takes_nothing(self):
        told = self.of(slants, [("bend", 0), ("sum", ONE, [(1, NOUGHT)])], [((-1, 1), (2, 1))])
        self.assertEqual(told[2], ([ONE, NOUGHT], [ONE, NOUGHT]))

    def test_ends_are_those_of_slants_and_not_of_spans(self):
        # x + y - x is from 0 on by its slants, though not by its span.
        units = [("sum", NOUGHT, [(0, ONE), (1, ONE)]), ("sum", NOUGHT, [(2, ONE), (0, (-1, 1))]), ("bend", 3)]
        told = self.of(slants, units, [((-1, 1), ONE), (NOUGHT, ONE)])
        self.assertEqual(told[4], ([NOUGHT, NOUGHT, ONE], [NOUGHT, NOUGHT, ONE]))

    def test_some_by_chance(self):
        for (many, units, outs), sides in some_nets():
            told = slants(Net(many, units, outs), Box(sides))
            self.assertEqual(told, [(pairs(under), pairs(above)) for under, above in expected_slants(units, sides)])
            for slanted in told:
                self.assertEqual([type(part) for part in (slanted, slanted[0], slanted[1])], [tuple, list, list])
                for one in slanted[0] + slanted[1]:
                    assert_ratio(self, one)

    def test_no_form_stands_in_two_places(self):
        units = [("bend", 0), ("bend", 1), ("sum", NOUGHT, []), ("bend", 4), ("sum", NOUGHT, [(3, ONE)]), ("bend", 2)]
        for sides in ([(NOUGHT, ONE)] * 2, [((-2, 1), (-1, 1))] * 2, [((-1, 1), (2, 1))] * 2, [((-2, 1), ONE)] * 2):
            net, box = Net(2, units, [7]), Box(sides)
            first = slants(net, box)
            assert_own_lists(self, [first, slants(net, box)])
            before = slants(net, box)
            spoil(first)
            self.assertEqual(slants(net, box), before)
        for (many, units, outs), sides in some_nets():
            net, box = Net(many, units, outs), Box(sides)
            assert_own_lists(self, [slants(net, box), spans(net, box), bounds(net, box), net.told(), box.told()])


class Bounds(BoundTest):
    def test_places_where_the_span_is_better(self):
        told = self.of(bounds, [("bend", 0)], [((-1, 1), (2, 1))])
        self.assertEqual(told, [((-1, 1), (2, 1)), (NOUGHT, (2, 1))])

    def test_places_where_the_slants_are_better(self):
        units = [("sum", NOUGHT, [(0, ONE), (1, ONE)]), ("sum", NOUGHT, [(2, ONE), (0, (-1, 1))])]
        sides = [((-1, 1), ONE), (NOUGHT, ONE)]
        self.assertEqual(self.of(spans, units, sides)[3], ((-2, 1), (3, 1)))
        self.assertEqual(self.of(bounds, units, sides)[3], (NOUGHT, ONE))

    def test_each_end_by_itself(self):
        # x less its bend: the span is better below, the slants are better above.
        units = [("bend", 0), ("sum", NOUGHT, [(0, ONE), (1, (-1, 1))])]
        sides = [((-1, 1), (2, 1))]
        self.assertEqual(self.of(spans, units, sides)[2], ((-3, 1), (2, 1)))
        self.assertEqual(self.of(slants, units, sides)[2], ([(-2, 3), (1, 3)], [NOUGHT, NOUGHT]))
        self.assertEqual(self.of(bounds, units, sides)[2], ((-1, 1), NOUGHT))
        units = [("bend", 0), ("sum", NOUGHT, [(1, ONE)]), ("bend", 2)]
        self.assertEqual(self.of(bounds, units, sides)[1:], [(NOUGHT, (2, 1))] * 3)

    def test_some_by_chance(self):
        better = {"span": 0, "slant": 0}
        for (many, units, outs), sides in some_nets():
            net, box = Net(many, units, outs), Box(sides)
            told = bounds(net, box)
            expected = []
            for span, (under, above) in zip(spans_by_hand(units, sides), expected_slants(units, sides)):
                least, most = ends(pairs(under), sides)[0], ends(pairs(above), sides)[1]
                better["span"] += (span[0] > least) + (span[1] < most)
                better["slant"] += (span[0] < least) + (span[1] > most)
                expected.append((pair(max(span[0], least)), pair(min(span[1], most))))
            self.assertEqual(told, expected)
            for one in told:
                self.assertIs(type(one), tuple)
                assert_ratio(self, one[0])
                assert_ratio(self, one[1])
        self.assertGreater(min(better.values()), 5)


class Hold(BoundTest):
    def test_each_value_lies_within_span_slants_and_bounds(self):
        for (many, units, outs), sides in some_nets(90):
            net, box = Net(many, units, outs), Box(sides)
            spanned, slanted, bounded = spans(net, box), slants(net, box), bounds(net, box)
            self.assertEqual([len(spanned), len(slanted), len(bounded)], [many + len(units)] * 3)
            for point in points_in(sides):
                self.assertTrue(box.has(pairs(point)))
                values = walk(units, point)
                self.assertEqual(net.walked(pairs(point)), pairs(values))
                for value, span, (under, above), bound in zip(values, spanned, slanted, bounded):
                    self.assertTrue(Fraction(*span[0]) <= value <= Fraction(*span[1]))
                    self.assertTrue(at(under, point) <= value <= at(above, point))
                    self.assertTrue(Fraction(*bound[0]) <= value <= Fraction(*bound[1]))

    def test_reckoned_once_for_each_place(self):
        units = twice_over()
        sides = [((-2, 1), (1, 3))]
        net, box = Net(1, units, [80]), Box(sides)
        expected = spans_by_hand(units, sides)
        self.assertEqual(spans(net, box), [(pair(low), pair(high)) for low, high in expected])
        told = slants(net, box)
        self.assertEqual(told, [(pairs(under), pairs(above)) for under, above in expected_slants(units, sides)])
        for point in points_in(sides):
            for value, (low, high) in zip(walk(units, point), bounds(net, box)):
                self.assertTrue(Fraction(*low) <= value <= Fraction(*high))

    def test_nothing_handed_in_is_changed(self):
        for (many, units, outs), sides in some_nets():
            net, box = Net(many, units, outs), Box(sides)
            for ask in (spans, slants, bounds):
                first = ask(net, box)
                before = ask(net, box)
                spoil(first)
                self.assertEqual(ask(net, box), before)
                self.assertEqual(net.told(), (many, units, outs))
                self.assertEqual(box.told(), sides)

    def test_what_was_told_whatever_its_size(self):
        great = (7, 3)
        for _ in range(13):
            great = times(great, great)
        self.assertGreater(great[0], 10 ** 5000)
        net = Net(1, [("sum", times(great, (-1, 1)), [(0, (2, 1))]), ("bend", 1)], [2])
        box = Box([(NOUGHT, great)])
        self.assertEqual(spans(net, box)[1:], [(times(great, (-1, 1)), great), (NOUGHT, great)])
        self.assertEqual(slants(net, box)[2], ([NOUGHT, NOUGHT], [NOUGHT, ONE]))
        self.assertEqual(bounds(net, box)[2], (NOUGHT, great))
        self.assertEqual(Box(bounds(net, box)).told(), bounds(net, box))


if __name__ == "__main__":
    unittest.main()
