import copy
import unittest
from collections import namedtuple
from enum import IntEnum
from fractions import Fraction

from bendproof.errors import NoNet
from bendproof.nets import Net
from bendproof.ratios import ratio, times
from helping import (Touchy, assert_own_lists, assert_ratio, assert_refused, no_ratios, pair, pairs, points_in, some_nets,
                     spoil, strange_things, twice_over, walk)

NOUGHT = (0, 1)
ONE = (1, 1)
EMPTY_SUM = ("sum", NOUGHT, [])


class Place(IntEnum):
    NONE = 0
    ONE = 1


Bend = namedtuple("Bend", "word place")


def good_net():
    """x, y; 1 + 2x - y/2; its bend; x - that bend; the bend of y; all outs but one, one twice."""
    units = [("sum", ONE, [(0, (2, 1)), (1, (-1, 2))]), ("bend", 2), ("sum", NOUGHT, [(3, (-1, 1)), (0, ONE)]),
             ("bend", 1)]
    return 2, units, [4, 3, 5, 3]


class Made(unittest.TestCase):
    def assert_taken(self, many, units, outs):
        self.assertEqual(Net(many, units, outs).told(), (many, units, outs))

    def test_one_to_six_ins_and_no_units(self):
        for many in range(1, 7):
            self.assert_taken(many, [], [0])
            self.assert_taken(many, [], list(range(many)))
            self.assert_taken(many, [("bend", many - 1)], [many, many, 0])

    def test_sums_with_and_without_terms(self):
        self.assert_taken(1, [("sum", (-7, 3), [])], [1])
        self.assert_taken(1, [("sum", NOUGHT, [(0, NOUGHT)])], [1, 0])
        self.assert_taken(2, [EMPTY_SUM, ("sum", ONE, [(2, ONE), (0, (-1, 2)), (1, NOUGHT)])], [3])

    def test_eighty_units(self):
        self.assert_taken(1, [EMPTY_SUM] * 80, [80])
        self.assert_taken(6, [("sum", ONE, [(place, ONE) for place in range(6 + k)]) for k in range(80)], [85])
        self.assert_taken(1, [("bend", 0)] * 20 + [EMPTY_SUM] * 60, [80])

    def test_twenty_bends(self):
        self.assert_taken(1, [("bend", 0)] * 20, [20])
        self.assert_taken(1, [("bend", k) for k in range(20)], [20])

    def test_one_to_twelve_outs_some_twice(self):
        for many in range(1, 13):
            self.assert_taken(1, [("bend", 0)], [1] * many)
            self.assert_taken(1, [("bend", 0)], [k % 2 for k in range(many)])

    def test_some_by_chance(self):
        for (many, units, outs), _ in some_nets():
            self.assert_taken(many, units, outs)

    def test_named_kinds_are_told_plainly(self):
        units = [Bend("bend", Place.NONE), ("sum", (Place.ONE, Place.ONE), [(Place.ONE, (Place.NONE, Place.ONE))])]
        told = Net(Place.ONE, units, [Place.ONE]).told()
        self.assertEqual(told, (1, [("bend", 0), ("sum", ONE, [(1, NOUGHT)])], [1]))
        share = told[1][1][2][0][1]
        for number in (told[0], told[1][0][1], told[1][1][1][0], told[1][1][2][0][0], share[0], share[1], told[2][0]):
            self.assertIs(type(number), int)
        self.assertIs(type(told[1][0]), tuple)


class Refused(unittest.TestCase):
    def assert_none(self, many, units, outs):
        assert_refused(self, NoNet, Net, many, units, outs)

    def assert_no_unit(self, unit):
        """Refused alone, and ahead of and behind others."""
        self.assert_none(1, [unit], [0])
        self.assert_none(1, [EMPTY_SUM, unit], [0])
        self.assert_none(1, [("bend", 0), unit, ("bend", 0)], [0])
        self.assert_none(6, [EMPTY_SUM] * 79 + [unit], [0])

    def tearDown(self):
        # Whatever was refused, a good net is taken behind it.
        many, units, outs = good_net()
        self.assertEqual(Net(many, units, outs).told(), good_net())

    def test_no_whole_number_of_ins(self):
        for thing in strange_things() + ["1", "", (1, 1), Touchy(), Fraction(1)]:
            self.assert_none(thing, [], [0])
            self.assert_none(thing, *good_net()[1:])

    def test_too_few_and_too_many_ins(self):
        for many in (0, -1, 7, 8, 100, 10 ** 900, -10 ** 900):
            self.assert_none(many, [], [0])
            self.assert_none(many, [("bend", 0)], [0])
            self.assert_none(many, [EMPTY_SUM, EMPTY_SUM], [0])
            self.assert_none(many, [EMPTY_SUM, ("bend", 0)], [1])

    def test_too_many_units(self):
        for many in (81, 82, 500):
            self.assert_none(1, [EMPTY_SUM] * many, [0])
            self.assert_none(6, [EMPTY_SUM] * many, [0])

    def test_too_many_bends(self):
        for many in (21, 22, 80):
            self.assert_none(1, [("bend", 0)] * many, [0])
            self.assert_none(1, [("bend", k) for k in range(many)], [0])
        self.assert_none(2, [("bend", 0), EMPTY_SUM] * 21, [0])

    def test_too_few_and_too_many_outs(self):
        for outs in ([], [0] * 13, list(range(13)), [0] * 100):
            self.assert_none(1, [EMPTY_SUM] * 20, outs)
            self.assert_none(6, [], outs)

    def test_units_and_outs_that_are_no_lists(self):
        no_lists = [thing for thing in strange_things() if not isinstance(thing, list)]
        for thing in no_lists + ["", "units", 0, 1, (EMPTY_SUM,), {0: EMPTY_SUM}, iter([EMPTY_SUM]), ([],)]:
            self.assert_none(1, thing, [0])
            self.assert_none(2, good_net()[1], thing)
            self.assert_none(thing, thing, thing)
        self.assert_none(2, good_net()[1], (4, 3))
        self.assert_none(2, good_net()[1], {4: 3})
        self.assert_none(2, good_net()[1], range(3))

    def test_a_unit_that_is_no_tuple(self):
        for unit in strange_things() + ["", "sum", "bend", 0, ["bend", 0], ["sum", ONE, []], {"bend": 0}]:
            self.assert_no_unit(unit)

    def test_a_unit_that_is_too_short_or_too_long(self):
        for unit in ((), ("sum",), ("sum", ONE), ("sum", ONE, [], []), ("sum", ONE, [], None), ("sum", []), ("sum", 0),
                     ("bend",), ("bend", 0, 0), ("bend", 0, []), ("bend", ONE, []), ("bend", 0, None)):
            self.assert_no_unit(unit)

    def test_a_unit_with_another_word_ahead(self):
        for word in strange_things() + ["", "Sum", "sum ", " bend", "BEND", "summ", "ben", "add", 0, 1, ("sum",)]:
            self.assert_no_unit((word, ONE, []))
            self.assert_no_unit((word, 0))
            self.assert_no_unit((word,))

    def test_a_constant_or_share_that_is_no_ratio(self):
        for thing in no_ratios():
            self.assert_no_unit(("sum", thing, []))
            self.assert_no_unit(("sum", ONE, [(0, thing)]))
            self.assert_none(2, [("sum", ONE, [(0, ONE), (1, thing)])], [0])

    def test_terms_that_are_no_list(self):
        no_lists = [thing for thing in strange_things() if not isinstance(thing, list)]
        for thing in no_lists + ["", "terms", 0, 1, ((0, ONE),), {0: ONE}, (0, ONE), iter([]), {(0, ONE)}]:
            self.assert_no_unit(("sum", ONE, thing))

    def test_a_term_that_is_no_tuple_of_two(self):
        for term in strange_things() + ["", "ab", 0, [0, ONE], (0,), (ONE,), (0, ONE, ONE), (0, 1, 1), {0: ONE}, None]:
            self.assert_no_unit(("sum", ONE, [term]))
            self.assert_none(2, [("sum", ONE, [(0, ONE), term])], [0])
            self.assert_none(2, [("sum", ONE, [term, (0, ONE)])], [0])

    def test_a_place_that_is_not_ahead(self):
        for many in range(1, 7):
            for k in range(4):
                units = [EMPTY_SUM] * k
                for place in (many + k, many + k + 1, 99, -1, -many, 10 ** 900, -10 ** 900):
                    self.assert_none(many, units + [("bend", place)] + [EMPTY_SUM] * 5, [0])
                    self.assert_none(many, units + [("sum", ONE, [(place, ONE)])] + [EMPTY_SUM] * 5, [0])
                    self.assert_none(many, units + [("sum", ONE, [(0, ONE), (place, ONE)])] + [EMPTY_SUM] * 5, [0])
                Net(many, units + [("bend", many + k - 1)], [0])
                Net(many, units + [("sum", ONE, [(many + k - 1, ONE)])], [0])

    def test_a_place_that_is_no_whole_number(self):
        for place in strange_things() + ["", "0", (0,), ONE]:
            self.assert_no_unit(("bend", place))
            self.assert_no_unit(("sum", ONE, [(place, ONE)]))
            self.assert_none(2, good_net()[1], [place])
            self.assert_none(2, good_net()[1], [0, 1, place])

    def test_a_place_twice_in_one_sum(self):
        self.assert_no_unit(("sum", ONE, [(0, ONE), (0, ONE)]))
        self.assert_no_unit(("sum", ONE, [(0, ONE), (0, (-1, 1))]))
        self.assert_none(2, [("sum", ONE, [(0, ONE), (1, ONE), (0, NOUGHT)])], [0])
        self.assert_none(2, [EMPTY_SUM, ("sum", ONE, [(2, ONE), (1, ONE), (2, ONE)])], [0])

    def test_an_out_that_is_no_place(self):
        many, units, _ = good_net()
        for out in (6, 7, -1, -6, 10 ** 900, -10 ** 900):
            self.assert_none(many, units, [out])
            self.assert_none(many, units, [0, out])
        self.assert_none(1, [], [1])
        self.assertEqual(Net(many, units, [5]).told()[2], [5])


class Told(unittest.TestCase):
    def test_kinds(self):
        told = Net(*good_net()).told()
        self.assertEqual([type(told)] + [type(part) for part in told], [tuple, int, list, list])
        for unit in told[1]:
            self.assertIs(type(unit), tuple)
        self.assertIs(type(told[1][0][2]), list)

    def test_a_net_of_what_was_told_tells_the_same(self):
        for (many, units, outs), sides in some_nets():
            told = Net(many, units, outs).told()
            again = Net(*told)
            self.assertEqual(again.told(), (many, units, outs))
            point = pairs(points_in(sides)[-1])
            self.assertEqual(again.walked(point), Net(many, units, outs).walked(point))

    def test_lists_handed_in_and_told_are_apart(self):
        for parts in [good_net()] + [net for net, _ in some_nets()]:
            handed = copy.deepcopy(parts)
            net = Net(*handed)
            self.assertEqual(handed, parts)
            point = [ratio(k - 1, 2) for k in range(parts[0])]
            before = [net.walked(point), net.outs_at(point), net.bends(), net.case_at(point)]
            first = net.told()
            assert_own_lists(self, [first, net.told()], handed)
            spoil(handed)
            self.assertEqual(net.told(), parts)
            spoil(first)
            self.assertEqual(net.told(), parts)
            self.assertEqual([net.walked(point), net.outs_at(point), net.bends(), net.case_at(point)], before)

    def test_one_list_of_terms_handed_in_in_two_places(self):
        terms = [(0, ONE)]
        unit = ("sum", ONE, terms)
        net = Net(1, [unit, unit, ("sum", NOUGHT, terms)], [3])
        assert_own_lists(self, [net.told(), net.told()], [terms])
        told = net.told()
        told[1][0][2].append((0, ONE))
        terms.append((0, ONE))
        self.assertEqual(net.told(), (1, [("sum", ONE, [(0, ONE)])] * 2 + [("sum", NOUGHT, [(0, ONE)])], [3]))


class Walked(unittest.TestCase):
    def test_by_hand(self):
        net = Net(*good_net())
        point = [(1, 4), (-2, 1)]
        self.assertEqual(net.walked(point), [(1, 4), (-2, 1), (5, 2), (5, 2), (-9, 4), NOUGHT])
        self.assertEqual(net.outs_at(point), [(-9, 4), (5, 2), NOUGHT, (5, 2)])
        self.assertEqual(net.case_at(point), ["on", "off"])
        self.assertEqual(net.bends(), [3, 5])

    def test_ins_alone(self):
        for many in range(1, 7):
            net = Net(many, [], [many - 1, 0])
            point = [ratio(2 * k - 5, k + 1) for k in range(many)]
            self.assertEqual(net.walked(point), point)
            self.assertEqual(net.outs_at(point), [point[-1], point[0]])
            self.assertEqual([net.bends(), net.case_at(point)], [[], []])

    def test_bends_of_ins_below_at_and_above_nought(self):
        net = Net(1, [("bend", 0)], [1])
        for at, value, state in (((-1, 2), NOUGHT, "off"), (NOUGHT, NOUGHT, "off"), ((1, 2), (1, 2), "on"),
                                 ((-1, 10 ** 99), NOUGHT, "off"), ((1, 10 ** 99), (1, 10 ** 99), "on")):
            self.assertEqual(net.walked([at]), [at, value])
            self.assertEqual(net.outs_at([at]), [value])
            self.assertEqual(net.case_at([at]), [state])

    def test_bends_of_sums_at_nought(self):
        net = Net(2, [("sum", (-1, 2), [(0, ONE), (1, (-1, 1))]), ("bend", 2)], [3])
        self.assertEqual(net.case_at([ONE, (1, 2)]), ["off"])
        self.assertEqual(net.walked([ONE, (1, 2)]), [ONE, (1, 2), NOUGHT, NOUGHT])
        self.assertEqual(net.case_at([ONE, (1, 3)]), ["on"])
        self.assertEqual(net.walked([ONE, (1, 3)])[2:], [(1, 6), (1, 6)])

    def test_sums_of_sums_and_bends_of_bends(self):
        units = [("sum", (1, 2), [(0, (2, 1))]), ("sum", (-1, 3), [(1, (3, 1)), (0, (-1, 1))]), ("bend", 2), ("bend", 3),
                 ("bend", 4), ("sum", (7, 1), [])]
        net = Net(1, units, [5, 6, 2])
        self.assertEqual(net.walked([(1, 5)]), [(1, 5), (9, 10), (13, 6)] + [(13, 6)] * 3 + [(7, 1)])
        self.assertEqual(net.walked([(-1, 1)]), [(-1, 1), (-3, 2), (-23, 6)] + [NOUGHT] * 3 + [(7, 1)])
        self.assertEqual(net.outs_at([(-1, 1)]), [NOUGHT, (7, 1), (-23, 6)])
        # What a bend of a bend bends is nought where the first is off.
        self.assertEqual(net.case_at([(1, 5)]), ["on"] * 3)
        self.assertEqual(net.case_at([(-1, 1)]), ["off"] * 3)
        self.assertEqual(net.bends(), [3, 4, 5])

    def test_some_by_chance(self):
        for (many, units, outs), sides in some_nets():
            net = Net(many, units, outs)
            places = [many + k for k, unit in enumerate(units) if unit[0] == "bend"]
            self.assertEqual(net.bends(), places)
            for point in points_in(sides, 4):
                expected = walk(units, point)
                told = net.walked(pairs(point))
                self.assertEqual(told, pairs(expected))
                for one in told:
                    assert_ratio(self, one)
                self.assertEqual(net.outs_at(pairs(point)), [pair(expected[out]) for out in outs])
                case = ["on" if expected[units[place - many][1]] > 0 else "off" for place in places]
                self.assertEqual(net.case_at(pairs(point)), case)

    def test_lists_told_are_new_and_the_point_stays(self):
        net = Net(*good_net())
        point = [(1, 4), (-2, 1)]
        for ask in (net.walked, net.outs_at, net.case_at):
            first = ask(point)
            before = list(first)
            assert_own_lists(self, [first, ask(point)], [point])
            spoil(first)
            self.assertEqual(ask(point), before)
            self.assertEqual(point, [(1, 4), (-2, 1)])
        bends = net.bends()
        spoil(bends)
        self.assertEqual(net.bends(), [3, 5])
        lone = Net(1, [], [0])
        for ask in (lone.walked, lone.outs_at):
            told = ask([ONE])
            spoil(told)
            self.assertEqual(ask([ONE]), [ONE])

    def test_values_are_reckoned_once_for_each_place(self):
        units = twice_over()
        self.assertEqual(len(units), 80)
        net = Net(1, units, [80])
        for at in ((1, 3), NOUGHT, (-5, 2)):
            expected = walk(units, [Fraction(*at)])
            self.assertEqual(net.walked([at]), pairs(expected))
            self.assertEqual(net.outs_at([at]), [pair(expected[80])])
            self.assertEqual(len(net.case_at([at])), 20)

    def test_what_was_told_is_handed_in_again_whatever_its_size(self):
        great = (7, 3)
        for _ in range(13):
            great = times(great, great)
        self.assertGreater(great[0], 10 ** 5000)
        net = Net(1, [("sum", great, [(0, great)]), ("bend", 1)], [2])
        self.assertEqual(net.walked([ONE]), [ONE, times(great, (2, 1)), times(great, (2, 1))])
        self.assertEqual(net.walked([(-2, 1)]), [(-2, 1), times(great, (-1, 1)), NOUGHT])
        again = Net(*net.told())
        self.assertEqual(again.told(), net.told())
        self.assertEqual(again.outs_at(net.outs_at([(-1, 2)])), net.outs_at([times(great, (1, 2))]))
        self.assertEqual(again.case_at([great]), ["on"])


if __name__ == "__main__":
    unittest.main()
