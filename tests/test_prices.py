import copy
import itertools
import random
import unittest
from fractions import Fraction

from bendproof.prices import highest, mixed
from helping import assert_own_lists, assert_ratio, fractions, pair, pairs, some_ratio, spoil

NOUGHT = (0, 1)
ONE = (1, 1)


def row(shares, bound):
    """A row of fractions or whole numbers."""
    return (pairs(shares), pair(bound))


def single(many, place, share=1):
    """The shares that are one variable alone."""
    return [share if k == place else 0 for k in range(many)]


def cube(many, low=0, high=1):
    rows = [row(single(many, k), high) for k in range(many)]
    return rows + [row(single(many, k, -1), -low) for k in range(many)]


def dot(one, other):
    return sum(a * b for a, b in zip(one, other))


def split(rows):
    return [(fractions(shares), Fraction(*bound)) for shares, bound in rows]


def keeps(rows, point):
    return all(dot(shares, point) <= bound for shares, bound in split(rows))


def mix(rows, prices, many):
    """Rows mixed, reckoned apart from the program."""
    parts = split(rows)
    shares = [sum(price * part[0][k] for price, part in zip(prices, parts)) for k in range(many)]
    return shares, sum(price * part[1] for price, part in zip(prices, parts))


class PriceTest(unittest.TestCase):
    def assert_ratios(self, told, many):
        """What is told is a list of so many ratios."""
        self.assertEqual([type(told), len(told)], [list, many])
        for one in told:
            assert_ratio(self, one)
        return fractions(told)

    def assert_prices(self, told, rows):
        prices = self.assert_ratios(told, len(rows))
        self.assertTrue(all(price >= 0 for price in prices))
        return prices

    def assert_most(self, told, rows, goal):
        word, value, point, prices = told
        assert_ratio(self, value)
        at = self.assert_ratios(point, len(goal))
        self.assertTrue(keeps(rows, at))
        self.assertEqual(dot(fractions(goal), at), Fraction(*value))
        self.assertEqual(mix(rows, self.assert_prices(prices, rows), len(goal)), (fractions(goal), Fraction(*value)))
        self.assertEqual(mixed(rows, prices, len(goal)), (goal, value))

    def assert_empty(self, told, rows, goal):
        word, prices = told
        shares, bound = mix(rows, self.assert_prices(prices, rows), len(goal))
        self.assertEqual(shares, [0] * len(goal))
        self.assertLess(bound, 0)

    def assert_endless(self, told, rows, goal):
        word, point, way = told
        self.assertTrue(keeps(rows, self.assert_ratios(point, len(goal))))
        along = self.assert_ratios(way, len(goal))
        self.assertTrue(all(dot(shares, along) <= 0 for shares, _ in split(rows)))
        self.assertGreater(dot(fractions(goal), along), 0)

    def assert_right(self, rows, goal):
        """What highest tells is right by itself, a tuple of the asker's own lists; tells which of the three it is."""
        before = copy.deepcopy((rows, goal))
        told = highest(rows, goal)
        self.assertEqual((rows, goal), before)
        self.assertIs(type(told), tuple)
        assert_own_lists(self, [told], (rows, goal))
        check = {"most": self.assert_most, "empty": self.assert_empty, "endless": self.assert_endless}[told[0]]
        check(told, rows, goal)
        return told

    def assert_value(self, rows, goal, value):
        self.assertEqual(self.assert_right(rows, pairs(goal))[:2], ("most", pair(value)))

    def assert_kind(self, rows, goal, kind):
        self.assertEqual(self.assert_right(rows, pairs(goal))[0], kind)


class Mixed(PriceTest):
    def test_by_hand(self):
        rows = [row([1, Fraction(1, 2)], 3), row([Fraction(-1, 3), 2], Fraction(1, 6))]
        self.assertEqual(mixed(rows, [ONE, ONE], 2), row([Fraction(2, 3), Fraction(5, 2)], Fraction(19, 6)))
        self.assertEqual(mixed(rows, [ONE, (3, 1)], 2), row([0, Fraction(13, 2)], Fraction(7, 2)))
        self.assertEqual(mixed(rows, [(-2, 1), (1, 2)], 2), row([Fraction(-13, 6), 0], Fraction(-71, 12)))
        self.assertEqual(mixed(rows, [NOUGHT, NOUGHT], 2), row([0, 0], 0))

    def test_no_rows(self):
        for many in range(4):
            self.assertEqual(mixed([], [], many), row([0] * many, 0))

    def test_no_variables(self):
        self.assertEqual(mixed([row([], 3), row([], Fraction(-1, 2))], [(1, 3), (4, 1)], 0), ([], (-1, 1)))

    def test_prices_of_either_sign(self):
        chance = random.Random(2)
        for k in range(200):
            many, count = k % 5, chance.randint(0, 6)
            rows = [([some_ratio(chance) for _ in range(many)], some_ratio(chance)) for _ in range(count)]
            prices = [some_ratio(chance) for _ in range(count)]
            before = copy.deepcopy((rows, prices))
            told = mixed(rows, prices, many)
            self.assertEqual((rows, prices), before)
            self.assertEqual((self.assert_ratios(told[0], many), Fraction(*told[1])), mix(rows, fractions(prices), many))
            assert_ratio(self, told[1])
            self.assertEqual([type(told), len(told)], [tuple, 2])
            assert_own_lists(self, [told, mixed(rows, prices, many)], (rows, prices))

    def test_a_new_list_each_time(self):
        rows = [row([1, 2], 3)]
        first = mixed(rows, [ONE], 2)
        self.assertEqual(first, rows[0])
        spoil(first)
        self.assertEqual(mixed(rows, [ONE], 2), row([1, 2], 3))
        self.assertEqual(rows, [row([1, 2], 3)])
        second = mixed(rows, [ONE], 2)
        spoil(rows)
        self.assertEqual(second, row([1, 2], 3))

    def test_what_was_mixed_is_mixed_again_whatever_its_size(self):
        great = (10 ** 900 + 1, 3 ** 1500)
        told = row([1, Fraction(-1, 2)], 5)
        for _ in range(8):
            told = mixed([told, told], [great, NOUGHT], 2)
        by = Fraction(*great) ** 8
        self.assertEqual(told, row([by, -by / 2], 5 * by))
        self.assertGreater(told[1][0], 10 ** 5000)
        self.assertEqual(mixed([told], [pair(1 / by)], 2), row([1, Fraction(-1, 2)], 5))

    def test_points_that_keep_all_rows_keep_the_mixed_one(self):
        chance = random.Random(4)
        kept = 0
        for _ in range(300):
            many = chance.randint(0, 3)
            rows = [([some_ratio(chance) for _ in range(many)], some_ratio(chance)) for _ in range(chance.randint(0, 4))]
            prices = [pair(abs(Fraction(*some_ratio(chance)))) for _ in rows]
            for _ in range(6):
                point = fractions([some_ratio(chance) for _ in range(many)])
                if keeps(rows, point):
                    kept += 1
                    self.assertTrue(keeps([mixed(rows, prices, many)], point))
        self.assertGreater(kept, 100)


class Edges(PriceTest):
    def test_no_rows_and_no_variables(self):
        self.assertEqual(self.assert_right([], []), ("most", NOUGHT, [], []))

    def test_no_rows(self):
        for many in range(1, 5):
            self.assert_value([], [0] * many, 0)
            for place in range(many):
                for share in (1, -1, Fraction(-2, 3)):
                    self.assert_kind([], single(many, place, share), "endless")
            self.assert_kind([], [1] * many, "endless")
            self.assert_kind([], [-1] * many, "endless")

    def test_no_variables(self):
        self.assert_value([row([], 0)], [], 0)
        self.assert_value([row([], 3), row([], 0)], [], 0)
        self.assert_kind([row([], -1)], [], "empty")
        self.assert_kind([row([], 3), row([], Fraction(-1, 9)), row([], 0)], [], "empty")

    def test_rows_of_noughts(self):
        for many in range(1, 4):
            for goal, kind in (([0] * many, "most"), ([1] * many, "endless"), (single(many, 0, -1), "endless")):
                for bounds in ([0], [5], [0, 5, 0]):
                    self.assert_kind([row([0] * many, bound) for bound in bounds], goal, kind)
                for bounds in ([-1], [0, Fraction(-1, 7), 5], [-1, -2]):
                    self.assert_kind([row([0] * many, bound) for bound in bounds], goal, "empty")

    def test_rows_of_noughts_among_others(self):
        rows = [row([0, 0], 0)] + cube(2) + [row([0, 0], 7)]
        self.assert_value(rows, [1, -1], 1)
        self.assert_kind(rows + [row([0, 0], -1)], [1, -1], "empty")

    def test_one_variable(self):
        self.assert_value([row([2], 3)], [1], Fraction(3, 2))
        self.assert_kind([row([2], 3)], [-1], "endless")
        self.assert_value([row([2], 3)], [0], 0)
        self.assert_value([row([-2], 3)], [-5], Fraction(15, 2))
        self.assert_kind([row([1], 1), row([-1], -2)], [1], "empty")
        self.assert_value([row([1], 1), row([-1], -1)], [4], 4)
        self.assert_value([row([1], -1), row([-1], 5)], [0], 0)

    def test_goals_of_noughts_still_ask_for_a_point(self):
        self.assert_value([row([1, 1], -3), row([-1, 0], 10), row([0, -1], 10)], [0, 0], 0)
        self.assert_kind([row([1, 1], -3), row([-1, 0], 1), row([0, -1], 1)], [0, 0], "empty")

    def test_empty_though_the_goal_could_go_on_for_ever(self):
        self.assert_kind([row([1, 0], 0), row([-1, 0], -1)], [0, 1], "empty")
        self.assert_kind([row([1, 0], 0), row([-1, 0], -1)], [1, 1], "empty")

    def test_ways_that_no_row_sees(self):
        self.assert_kind([row([1, -1], 0)], [1, 1], "endless")
        self.assert_value([row([1, -1], 3)], [2, -2], 6)
        self.assert_kind([row([1, -1, 0], 3), row([-1, 1, 0], -1)], [0, 0, -1], "endless")
        self.assert_value([row([1, -1, 0], 3), row([-1, 1, 0], -1)], [-1, 1, 0], -1)

    def test_endless_along_an_edge(self):
        self.assert_kind([row([1, -1], 0), row([-1, 1], 1), row([-1, 0], 0)], [1, 0], "endless")
        self.assert_kind([row([-1, -1], -4)], [1, 0], "endless")
        self.assert_value([row([-1, -1], -4)], [-1, -1], -4)

    def test_rows_that_stand_twice(self):
        rows = cube(3, -1, 2) + [row([1, 1, 1], 1), row([2, 2, 2], 2)]
        self.assert_value(rows + rows, [1, 1, 2], 3)
        self.assert_value(rows * 3, [-1, 0, 0], 1)
        twice = rows + rows
        self.assert_kind(twice + [row([-1, -1, -1], -2)] * 2, [1, 0, 0], "empty")
        shared = row([1, 0], 1)
        self.assert_value([shared, shared], [1, 0], 1)

    def test_by_hand(self):
        rows = [row([1, 1], 4), row([1, 3], 6), row([-1, 0], 0), row([0, -1], 0)]
        self.assert_value(rows, [3, 5], 14)
        self.assert_value(rows, [-1, -1], 0)
        self.assert_value(rows, [1, -1], 4)
        self.assert_value([row([Fraction(1, 2), Fraction(2, 3)], Fraction(5, 6))] + cube(2), [1, 1], Fraction(3, 2))

    def test_lists_told_are_new_each_time(self):
        for rows, goal in ((cube(2), [1, 1]), ([], [0, 0]), ([], [1, 0]), ([row([0, 0], -1)], [0, 0])):
            first = highest(rows, pairs(goal))
            before = copy.deepcopy(first)
            second = highest(rows, pairs(goal))
            assert_own_lists(self, [first, second], rows)
            spoil(first)
            self.assertEqual(second, before)
            self.assertEqual(highest(rows, pairs(goal)), before)

    def test_what_is_done_to_rows_changes_nothing_told(self):
        rows, goal = cube(2), pairs([1, 1])
        told = highest(rows, goal)
        before = copy.deepcopy(told)
        spoil(rows)
        spoil(goal)
        self.assertEqual(told, before)


class Searched(PriceTest):
    def test_many_small_ones_by_chance(self):
        chance = random.Random(5)
        kinds = {"most": 0, "empty": 0, "endless": 0}
        for _ in range(3000):
            many = chance.randint(0, 4)
            bottoms = chance.choice(((1,), (1, 2, 3)))
            rows = [([some_ratio(chance, bottoms) for _ in range(many)],
                     pair(Fraction(chance.randint(chance.choice((-3, 0)), 3)))) for _ in range(chance.randint(0, 8))]
            goal = [some_ratio(chance, bottoms) for _ in range(many)]
            kinds[self.assert_right(rows + rows[:chance.randint(0, 1)], goal)[0]] += 1
        self.assertGreater(min(kinds.values()), 300)

    def test_against_all_corners(self):
        chance = random.Random(6)
        for _ in range(150):
            rows = cube(2, -2, 2) + [([some_ratio(chance), some_ratio(chance)], some_ratio(chance)) for _ in range(3)]
            goal = [some_ratio(chance), some_ratio(chance)]
            found = []
            for (one, left), (other, right) in itertools.combinations(split(rows), 2):
                by = one[0] * other[1] - one[1] * other[0]
                if by != 0:
                    point = [(left * other[1] - right * one[1]) / by, (one[0] * right - other[0] * left) / by]
                    if keeps(rows, point):
                        found.append(dot(fractions(goal), point))
            if found:
                self.assert_value(rows, fractions(goal), max(found))
            else:
                self.assert_kind(rows, fractions(goal), "empty")

    def test_searches_that_are_known_to_stand_still(self):
        quarter, half = Fraction(1, 4), Fraction(1, 2)
        signs = [row(single(4, k, -1), 0) for k in range(4)]
        beale = [row([quarter, -60, Fraction(-1, 25), 9], 0), row([half, -90, Fraction(-1, 50), 3], 0), row([0, 0, 1, 0], 1)]
        kuhn = [row([-2, -9, 1, 9], 0), row([Fraction(1, 3), 1, Fraction(-1, 3), -2], 0), row([2, 3, -1, -12], 2)]
        chvatal = [row([half, Fraction(-11, 2), Fraction(-5, 2), 9], 0), row([half, Fraction(-3, 2), -half, 1], 0),
                   row([1, 0, 0, 0], 1)]
        for rows, goal, value in ((beale, [Fraction(3, 4), -150, Fraction(1, 50), -6], Fraction(1, 20)),
                                  (kuhn, [2, 3, -1, -12], 2), (chvatal, [10, -57, -9, -24], 1)):
            for ordered in (rows + signs, signs + rows, (rows + signs)[::-1]):
                self.assert_value(ordered, goal, value)
                self.assert_value([(shares[::-1], bound) for shares, bound in ordered], goal[::-1], value)

    def test_many_rows_meet_in_one_corner(self):
        chance = random.Random(8)
        for many in (2, 5, 10, 20):
            for _ in range(3):
                wholes = [[chance.choice((0, 0, 0, 1, -1, 2)) for _ in range(many)] for _ in range(60)]
                through = [chance.randint(-3, 3) for _ in range(many)]
                goal = [sum(shares[k] for shares in wholes) for k in range(many)]
                self.assert_value([row(shares, 0) for shares in wholes], goal, 0)
                self.assert_value([row(shares, dot(shares, through)) for shares in wholes], goal, dot(goal, through))
                self.assert_right([row(shares, dot(shares, through)) for shares in wholes],
                                  pairs(single(many, 0, chance.choice((1, -1)))))

    def test_choosing_one_in_each_row_and_column(self):
        chance = random.Random(9)
        for high, wide in ((4, 4), (4, 5), (2, 10)):
            many = high * wide
            rows = [row(single(many, k, -1), 0) for k in range(many)]
            rows += [row([int(k // wide == line) for k in range(many)], 1) for line in range(high)]
            rows += [row([-int(k // wide == line) for k in range(many)], -1) for line in range(high)]
            rows += [row([int(k % wide == column) for k in range(many)], 1) for column in range(wide)]
            worth = [chance.randint(-5, 9) for _ in range(many)]
            best = max(sum(worth[line * wide + column] for line, column in enumerate(chosen))
                       for chosen in itertools.permutations(range(wide), high))
            self.assert_value(rows, worth, best)
            self.assert_value(rows, [1] * many, high)

    def test_cubes_that_lead_round_all_their_corners(self):
        many = 20
        first = [row([2 ** (k - j + 1) if j < k else int(j == k) for j in range(many)], 5 ** (k + 1)) for k in range(many)]
        first += [row(single(many, k, -1), 0) for k in range(many)]
        second = [row([-1] + [0] * (many - 1), 0), row([1] + [0] * (many - 1), 1)]
        for k in range(1, many):
            for sign, bound in ((-1, 0), (1, 1)):
                second.append(row([sign if j == k else Fraction(int(j == k - 1), 3) for j in range(many)], bound))
        for rows, goal, value in ((first, [2 ** (many - 1 - k) for k in range(many)], 5 ** many),
                                  (second, single(many, many - 1), 1)):
            for ordered in (rows, rows[::-1]):
                self.assert_value(ordered, goal, value)
                self.assert_value([(shares[::-1], bound) for shares, bound in ordered], goal[::-1], value)

    def test_sixty_rows_over_twenty_variables(self):
        chance = random.Random(10)
        kinds = set()
        for k in range(12):
            low = (0, -9, 0)[k % 3]
            rows = [row([chance.randint(-9, 9) for _ in range(20)], chance.randint(low, 9)) for _ in range(60)]
            if k % 4 == 1:
                rows = rows[:20] + cube(20, -10, 10)
            if k % 4 == 3:
                rows = [row([abs(Fraction(*share)) for share in shares], Fraction(*bound)) for shares, bound in rows]
            kinds.add(self.assert_right(rows, pairs([chance.randint(-9, 9) for _ in range(20)]))[0])
        self.assertEqual(kinds, {"most", "empty", "endless"})

    def test_sixty_rows_of_ratios_over_twenty_variables(self):
        chance = random.Random(12)
        rows = [([some_ratio(chance, (1, 2, 3, 5, 7)) for _ in range(20)], some_ratio(chance, (1, 2, 3)))
                for _ in range(20)] + cube(20, -3, Fraction(7, 2))
        self.assert_right(rows, [some_ratio(chance) for _ in range(20)])

    def test_somewhat_more_rows_and_variables(self):
        chance = random.Random(13)
        rows = cube(26, -1, 1) + [row([chance.randint(-2, 2) for _ in range(26)], chance.randint(0, 2)) for _ in range(40)]
        self.assert_right(rows, pairs([chance.randint(-3, 3) for _ in range(26)]))


class Long(PriceTest):
    def test_twenty_figures(self):
        chance = random.Random(14)
        great = 10 ** 20
        for many, count in ((0, 3), (1, 3), (2, 6), (4, 10), (8, 24), (20, 60)):
            for low in (0, -great):
                rows = [row([chance.randint(-great, great) for _ in range(many)], chance.randint(low, great))
                        for _ in range(count)]
                self.assert_right(rows, pairs([chance.randint(-great, great) for _ in range(many)]))

    def test_tops_and_bottoms_of_twenty_figures(self):
        chance = random.Random(15)
        great = 10 ** 20

        def long_ratio(low=-great):
            return pair(Fraction(chance.randint(low, great), chance.randint(1, great)))

        for many, count in ((1, 3), (3, 8), (5, 12), (8, 24)):
            for low in (0, -great):
                rows = [([long_ratio() for _ in range(many)], long_ratio(low)) for _ in range(count)]
                self.assert_right(rows, [long_ratio() for _ in range(many)])

    def test_long_and_short_numbers_in_one_row(self):
        great = 10 ** 60
        self.assert_value([row([great, 1], 0), row([-great, 0], 0), row([0, -1], 5)], [0, 1], 0)
        self.assert_value([row([great, 1], great), row([-great, 1], -great), row([0, -1], great)], [1, great], 1)
        self.assert_kind([row([great, 1], great), row([-great, 1], -great), row([0, -1], -1)], [0, 1], "empty")
        self.assert_kind([row([great, 1], 0), row([0, -1], 3)], [-1, great], "endless")
        self.assert_value([row([1, Fraction(1, great)], 1), row([-1, 0], 0), row([0, -1], 0)], [0, 1], great)

    def test_numbers_that_differ_in_their_last_figure(self):
        great = 10 ** 40
        rows = [row([great, great + 1], great), row([-great, -great - 1], -great)]
        self.assert_value(rows + [row([0, 1], 1), row([0, -1], 1)], [1, 1], Fraction(great + 1, great))
        self.assert_kind([row([great], great), row([-great - 1], -great - 2)], [1], "empty")
        self.assert_kind([row([great], great), row([-great], -great - 1)], [1], "empty")

    def test_what_was_told_is_handed_in_again_whatever_its_size(self):
        chance = random.Random(16)
        great = 10 ** 400

        def long_ratio(low):
            return pair(Fraction(chance.randint(low, great), chance.randint(1, great)))

        rows = [([long_ratio(-great) for _ in range(3)], long_ratio(1)) for _ in range(6)] + cube(3, -1, 1)
        told = self.assert_right(rows, [long_ratio(-great) for _ in range(3)])
        self.assertEqual(told[0], "most")
        self.assertGreater(told[1][1], 10 ** 4300)
        again = self.assert_right(rows + [mixed(rows, told[3], 3)], told[2])
        self.assertEqual(again[0], "most")
        tight = (told[2], again[1])
        self.assertEqual(self.assert_right(rows + [tight], told[2])[:2], ("most", again[1]))


if __name__ == "__main__":
    unittest.main()
