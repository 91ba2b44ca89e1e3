import copy
import random
import unittest
from fractions import Fraction

from bendproof.boxes import Box
from bendproof.cases import form_of, forms_in, rows_in
from bendproof.nets import Net
from bendproof.ratios import times
from helping import (assert_own_lists, assert_ratio, combined, forms_by_hand, fractions, pairs, points_in, rows_by_hand,
                     some_nets, some_terms, spans_by_hand, spoil, twice_over, walk)

NOUGHT = (0, 1)
ONE = (1, 1)
LESS = (-1, 1)
STATES = ("on", "off", "open")


def some_cases(many=60):
    """Nets' parts, sides of a box, and a case of each, with all three states."""
    chance = random.Random(3)
    found = []
    for parts, sides in some_nets(many):
        case = [chance.choice(STATES) for unit in parts[1] if unit[0] == "bend"]
        found.append((parts, sides, case))
    return found


def at(shares, point):
    return sum((a * b for a, b in zip(shares, point)), Fraction(0))


class Forms(unittest.TestCase):
    def test_ins_alone(self):
        for many in range(1, 7):
            told = forms_in(Net(many, [], [0]), [])
            self.assertEqual(told, [[NOUGHT] + [ONE if k == j else NOUGHT for k in range(many)] for j in range(many)])

    def test_sums_of_sums(self):
        units = [("sum", (1, 2), [(0, (2, 1)), (1, (-1, 3))]), ("sum", (-1, 1), [(2, (3, 1)), (0, LESS)]), ("sum", (5, 7), []),
                 ("sum", NOUGHT, [(3, (1, 5)), (4, (7, 1)), (1, NOUGHT)])]
        told = forms_in(Net(2, units, [0]), [])
        self.assertEqual(told[2:], [[(1, 2), (2, 1), (-1, 3)], [(1, 2), (5, 1), LESS], [(5, 7), NOUGHT, NOUGHT],
                                    [(51, 10), ONE, (-1, 5)]])

    def test_a_bend_that_is_on_off_and_open(self):
        net = Net(1, [("sum", (-1, 2), [(0, (3, 1))]), ("bend", 1), ("sum", ONE, [(2, (2, 1)), (0, ONE)])], [3])
        self.assertEqual(forms_in(net, ["on"]), [[NOUGHT, ONE], [(-1, 2), (3, 1)], [(-1, 2), (3, 1)], [NOUGHT, (7, 1)]])
        self.assertEqual(forms_in(net, ["off"]), [[NOUGHT, ONE], [(-1, 2), (3, 1)], [NOUGHT, NOUGHT], [ONE, ONE]])
        self.assertEqual(forms_in(net, ["open"]), [[NOUGHT, ONE, NOUGHT], [(-1, 2), (3, 1), NOUGHT],
                                                   [NOUGHT, NOUGHT, ONE], [ONE, ONE, (2, 1)]])

    def test_a_variable_for_each_open_bend_in_the_bends_order(self):
        net = Net(2, [("bend", 1), ("bend", 0), ("bend", 1), ("bend", 2)], [5])
        for case, expected in ((["open"] * 4, [3, 4, 5, 6]), (["off", "open", "off", "open"], [None, 3, None, 4]),
                               (["open", "off", "off", "open"], [3, None, None, 4]),
                               (["off", "off", "off", "open"], [None, None, None, 3])):
            told = forms_in(net, case)
            count = 3 + case.count("open")
            self.assertEqual([len(form) for form in told], [count] * 6)
            for form, number in zip(told[2:], expected):
                self.assertEqual(form, [ONE if k == number else NOUGHT for k in range(count)])

    def test_bends_of_bends(self):
        net = Net(1, [("bend", 0), ("bend", 1), ("bend", 2)], [3])
        self.assertEqual(forms_in(net, ["on", "on", "on"]), [[NOUGHT, ONE]] * 4)
        self.assertEqual(forms_in(net, ["off", "on", "on"]), [[NOUGHT, ONE]] + [[NOUGHT, NOUGHT]] * 3)
        self.assertEqual(forms_in(net, ["open", "on", "on"]), [[NOUGHT, ONE, NOUGHT]] + [[NOUGHT, NOUGHT, ONE]] * 3)
        self.assertEqual(forms_in(net, ["on", "open", "on"]), [[NOUGHT, ONE, NOUGHT]] * 2 + [[NOUGHT, NOUGHT, ONE]] * 2)
        self.assertEqual(forms_in(net, ["open", "off", "on"])[2:], [[NOUGHT] * 3] * 2)

    def test_some_by_chance(self):
        for (many, units, outs), _, case in some_cases():
            told = forms_in(Net(many, units, outs), case)
            self.assertEqual(told, [pairs(form) for form in forms_by_hand(many, units, case)])
            self.assertEqual({type(form) for form in told}, {list})
            for form in told:
                for one in form:
                    assert_ratio(self, one)

    def test_forms_are_reckoned_once_for_each_place(self):
        net = Net(1, twice_over(), [80])
        for state in STATES:
            self.assertEqual(len(forms_in(net, [state] * 20)), 81)

    def test_no_form_stands_twice_and_what_is_handed_in_stays(self):
        for parts, _, case in some_cases():
            net = Net(*parts)
            handed = list(case)
            first = forms_in(net, handed)
            before = copy.deepcopy(first)
            assert_own_lists(self, [first, forms_in(net, handed)], [handed])
            spoil(first)
            self.assertEqual(handed, case)
            self.assertEqual(net.told(), parts)
            self.assertEqual(forms_in(net, handed), before)


class FormOf(unittest.TestCase):
    def setUp(self):
        self.net = Net(1, [("sum", (-1, 2), [(0, (3, 1))]), ("bend", 1)], [2])

    def test_no_terms(self):
        self.assertEqual(form_of(self.net, ["on"], []), [NOUGHT, NOUGHT])
        self.assertEqual(form_of(self.net, ["open"], []), [NOUGHT, NOUGHT, NOUGHT])
        self.assertEqual(form_of(Net(3, [], [0]), [], []), [NOUGHT] * 4)

    def test_a_place_twice(self):
        self.assertEqual(form_of(self.net, ["off"], [(1, ONE), (1, ONE)]), [LESS, (6, 1)])
        self.assertEqual(form_of(self.net, ["open"], [(2, ONE), (0, ONE), (2, (-1, 3))]), [NOUGHT, ONE, (2, 3)])
        self.assertEqual(form_of(self.net, ["on"], [(2, ONE), (1, LESS)]), [NOUGHT, NOUGHT])
        self.assertEqual(form_of(self.net, ["on"], [(2, ONE), (2, LESS)]), [NOUGHT, NOUGHT])

    def test_shares_of_either_sign_and_nought(self):
        self.assertEqual(form_of(self.net, ["on"], [(2, (2, 1)), (0, (-1, 2)), (1, NOUGHT)]), [LESS, (11, 2)])
        self.assertEqual(form_of(self.net, ["open"], [(2, (-2, 3)), (1, (1, 3))]), [(-1, 6), ONE, (-2, 3)])

    def test_some_by_chance(self):
        chance = random.Random(5)
        for (many, units, outs), _, case in some_cases():
            net = Net(many, units, outs)
            terms = some_terms(chance, many + len(units))
            handed = copy.deepcopy(terms)
            told = form_of(net, case, handed)
            forms = forms_by_hand(many, units, case)
            count = 1 + many + case.count("open")
            expected = combined([(Fraction(*share), forms[place]) for place, share in terms], count)
            self.assertEqual(told, pairs(expected))
            spoil(told)
            self.assertEqual(handed, terms)
            self.assertEqual(form_of(net, case, handed), pairs(expected))


class Rows(unittest.TestCase):
    def test_ins_alone(self):
        told = rows_in(Net(2, [], [0]), Box([((-1, 2), (3, 1)), (NOUGHT, (5, 7))]), [])
        self.assertEqual(told, [([ONE, NOUGHT], (3, 1)), ([LESS, NOUGHT], (1, 2)),
                                ([NOUGHT, ONE], (5, 7)), ([NOUGHT, LESS], NOUGHT)])

    def test_on_and_off(self):
        net = Net(2, [("sum", (1, 2), [(0, (2, 1)), (1, (-1, 3))]), ("bend", 2)], [3])
        box = Box([((-1, 1), ONE)] * 2)
        ahead = rows_in(Net(2, [], [0]), box, [])
        self.assertEqual(rows_in(net, box, ["on"]), ahead + [([(-2, 1), (1, 3)], (1, 2))])
        self.assertEqual(rows_in(net, box, ["off"]), ahead + [([(2, 1), (-1, 3)], (-1, 2))])

    def open_rows(self, low, high):
        """The rows of an open bend of an in less one half, this in from low to high."""
        sides = [(low, high)]
        told = rows_in(Net(1, [("sum", (-1, 2), [(0, ONE)]), ("bend", 1)], [2]), Box(sides), ["open"])
        self.assertEqual(told[:2], [([ONE, NOUGHT], high), ([LESS, NOUGHT], times(low, LESS))])
        self.assertEqual(told[2:4], [([NOUGHT, LESS], NOUGHT), ([ONE, LESS], (1, 2))])
        self.assertEqual(len(told), 5)
        return told[4]

    def test_the_third_row_where_the_span_goes_below_and_above(self):
        # The span of the place is from -3/2 to 5/2: 4 Z - 5/2 S is not above 15/4, S being x - 1/2.
        self.assertEqual(self.open_rows(LESS, (3, 1)), ([(-5, 2), (4, 1)], (5, 2)))
        # From -1/2 to 1/6: 2/3 Z - 1/6 S is not above 1/12.
        self.assertEqual(self.open_rows(NOUGHT, (2, 3)), ([(-1, 6), (2, 3)], NOUGHT))

    def test_the_third_row_where_the_low_is_from_nought_on(self):
        for low, high in (((1, 2), (3, 1)), (ONE, (2, 1)), ((1, 2), (1, 2)), ((3, 4), (3, 4))):
            self.assertEqual(self.open_rows(low, high), ([LESS, ONE], (-1, 2)))

    def test_the_third_row_else(self):
        for low, high in ((LESS, (1, 2)), (LESS, NOUGHT), ((1, 3), (1, 2)), (NOUGHT, NOUGHT)):
            self.assertEqual(self.open_rows(low, high), ([NOUGHT, ONE], NOUGHT))

    def test_the_third_row_a_little_beside_nought(self):
        little = (1, 10 ** 30)
        net = Net(1, [("bend", 0)], [1])
        told = rows_in(net, Box([((-1, 10 ** 30), ONE)]), ["open"])
        self.assertEqual(told[4], ([LESS, (10 ** 30 + 1, 10 ** 30)], little))
        told = rows_in(net, Box([(LESS, little)]), ["open"])
        self.assertEqual(told[4], ([(-1, 10 ** 30), (10 ** 30 + 1, 10 ** 30)], little))

    def test_the_order_of_several_bends(self):
        net = Net(1, [("bend", 0), ("sum", LESS, [(1, ONE)]), ("bend", 2), ("bend", 0)], [3])
        box = Box([(LESS, (3, 1))])
        ins = [([ONE], (3, 1)), ([LESS], ONE)]
        self.assertEqual(rows_in(net, box, ["on", "off", "on"]), ins + [([LESS], NOUGHT), ([ONE], ONE), ([LESS], NOUGHT)])
        told = rows_in(net, box, ["off", "open", "on"])
        # The place that the second bends is -1 here, and its span from -1 to 2.
        self.assertEqual(told, [([ONE, NOUGHT], (3, 1)), ([LESS, NOUGHT], ONE), ([ONE, NOUGHT], NOUGHT),
                                ([NOUGHT, LESS], NOUGHT), ([NOUGHT, LESS], ONE), ([NOUGHT, (3, 1)], NOUGHT),
                                ([LESS, NOUGHT], NOUGHT)])
        told = rows_in(net, box, ["open", "on", "off"])
        self.assertEqual(told[2:], [([NOUGHT, LESS], NOUGHT), ([ONE, LESS], NOUGHT), ([(-3, 1), (4, 1)], (3, 1)),
                                    ([NOUGHT, LESS], LESS), ([ONE, NOUGHT], NOUGHT)])

    def test_some_by_chance(self):
        ways = {"across": 0, "from": 0, "else": 0}
        for (many, units, outs), sides, case in some_cases(120):
            told = rows_in(Net(many, units, outs), Box(sides), case)
            expected = rows_by_hand(many, units, sides, case)
            self.assertEqual(told, [(pairs(shares), pairs([bound])[0]) for shares, bound in expected])
            self.assertIs(type(told), list)
            for row in told:
                self.assertEqual([type(row), len(row), type(row[0])], [tuple, 2, list])
                for one in row[0] + [row[1]]:
                    assert_ratio(self, one)
            widths = spans_by_hand(units, sides)
            bent = [widths[unit[1]] for unit in units if unit[0] == "bend"]
            for low, high in [span for span, state in zip(bent, case) if state == "open"]:
                ways["across" if low < 0 < high else "from" if low >= 0 else "else"] += 1
        self.assertGreater(min(ways.values()), 10)

    def test_lists_are_the_askers_own_and_what_is_handed_in_stays(self):
        for parts, sides, case in some_cases():
            net = Net(*parts)
            box = Box(sides)
            handed = list(case)
            first = rows_in(net, box, handed)
            before = copy.deepcopy(first)
            assert_own_lists(self, [first, rows_in(net, box, handed)], [handed])
            spoil(first)
            self.assertEqual(handed, case)
            self.assertEqual(net.told(), parts)
            self.assertEqual(box.told(), sides)
            self.assertEqual(rows_in(net, box, handed), before)


class Kept(unittest.TestCase):
    def assert_kept(self, parts, sides, point, case):
        """The point, with the values of the open bends behind it, keeps all rows, and each form tells the value."""
        many, units, _ = parts
        values = walk(units, point)
        net = Net(*parts)
        bends = net.bends()
        full = point + [values[place] for place, state in zip(bends, case) if state == "open"]
        for shares, bound in rows_in(net, Box(sides), case):
            self.assertLessEqual(at(fractions(shares), full), Fraction(*bound))
        for form, value in zip(forms_in(net, case), values):
            self.assertEqual(at(fractions(form), [1] + full), value)

    def cases_of(self, parts, point, chance):
        """The case of a point, some with bends left open, and some that at nought are both on and off."""
        many, units, _ = parts
        values = walk(units, point)
        bent = [values[unit[1]] for unit in units if unit[0] == "bend"]
        case = Net(*parts).case_at(pairs(point))
        found = [case, ["open"] * len(case)]
        for _ in range(3):
            found.append(["open" if chance.random() < 0.5 else state for state in case])
        for base in list(found):
            found.append([chance.choice(STATES) if value == 0 else state for state, value in zip(base, bent)])
            found.append(["on" if value == 0 else state for state, value in zip(base, bent)])
        return found

    def test_at_many_points_of_the_box(self):
        chance = random.Random(17)
        noughts = 0
        for parts, sides in some_nets(40):
            for point in points_in(sides, 3)[-8:]:
                for case in self.cases_of(parts, point, chance):
                    self.assert_kept(parts, sides, point, case)
                values = walk(parts[1], point)
                noughts += len([unit for unit in parts[1] if unit[0] == "bend" and values[unit[1]] == 0])
        self.assertGreater(noughts, 50)

    def test_at_nought_both_on_and_off(self):
        parts = (2, [("sum", (-1, 2), [(0, ONE), (1, LESS)]), ("bend", 2), ("bend", 3)], [4])
        sides = [(LESS, ONE)] * 2
        for one in STATES:
            for other in STATES:
                self.assert_kept(parts, sides, [Fraction(1, 2), Fraction(0)], [one, other])
        # A little beside nought just one of them does.
        for state, point in (("on", [Fraction(1, 3), Fraction(0)]), ("off", [Fraction(2, 3), Fraction(0)])):
            net = Net(*parts)
            rows = rows_in(net, Box(sides), [state, state])
            self.assertTrue(any(at(fractions(shares), point) > Fraction(*bound) for shares, bound in rows))


if __name__ == "__main__":
    unittest.main()
