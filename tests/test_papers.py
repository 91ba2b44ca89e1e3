import copy
import random
import unittest
from fractions import Fraction

from bendproof.boxes import Box
from bendproof.cases import rows_in
from bendproof.judging import greatest
from bendproof.nets import Net
from bendproof.papers import holds, right_tree
from bendproof.ratios import minus, plus, times
from helping import (Indexed, Touchy, no_ratios, pair, pairs, points_in, right_by_hand, some_nets, some_terms,
                     strange_things, terms_at)

NOUGHT = (0, 1)
ONE = (1, 1)
LESS = (-1, 1)
HALF = (1, 2)
LITTLE = (1, 10 ** 40)
SIDES = [(LESS, ONE)]

# One in, from -1 to 1. Its rows: x <= 1; -x <= 1; and of its bend Z, open: -Z <= 0; x - Z <= 0; 2 Z - x <= 1.
LONE = (1, [("bend", 0)], [1])
# The same bend twice, to be held against itself.
TWINS = (1, [("bend", 0), ("bend", 0)], [1, 2])
TWINS_SAY = ([(1, ONE), (2, LESS)], NOUGHT)
# x is not below 0 and -1/2 - x is not: both can't be.
APART = (1, [("bend", 0), ("sum", (-1, 2), [(0, LESS)]), ("bend", 2)], [1, 3])


def priced(count, **at):
    """So many prices, nought but where r5=(1, 2) tells of the fifth."""
    prices = [NOUGHT] * count
    for name, price in at.items():
        prices[int(name[1:])] = price
    return prices


def leaf(count, **at):
    return ("leaf", priced(count, **at))


def twins_tree():
    """Z and Y being the bends: where Z is on, x - Y <= 0, else -Y <= 0."""
    return ("split", 0, leaf(6, r4=ONE), leaf(6, r3=ONE))


class PaperTest(unittest.TestCase):
    def told(self, parts, saying, tree, sides=SIDES):
        told = right_tree(Net(*parts), Box(sides), saying, tree)
        self.assertIs(type(told), bool)
        return told

    def assert_right(self, parts, saying, tree, sides=SIDES):
        self.assertTrue(self.told(parts, saying, tree, sides))
        self.assertTrue(right_by_hand(parts, sides, saying, tree))

    def assert_wrong(self, parts, saying, tree, sides=SIDES):
        self.assertIs(self.told(parts, saying, tree, sides), False)


class Leaves(PaperTest):
    def test_rows_that_mix_to_the_saying(self):
        self.assert_right(LONE, ([(1, ONE)], ONE), leaf(5, r0=HALF, r4=HALF))
        self.assert_right(LONE, ([(1, ONE), (0, LESS)], ONE), leaf(5, r1=HALF, r4=HALF))
        self.assert_right(LONE, ([(0, HALF), (1, LESS)], NOUGHT), leaf(5, r2=HALF, r3=HALF))
        self.assert_right(LONE, ([(1, (2, 1)), (0, LESS)], ONE), leaf(5, r4=ONE))

    def test_a_bound_with_room(self):
        prices = leaf(5, r0=HALF, r4=HALF)
        for bound in (plus(ONE, LITTLE), (2, 1), (10 ** 50, 3)):
            self.assert_right(LONE, ([(1, ONE)], bound), prices)

    def test_a_bound_that_is_too_great_by_a_little(self):
        prices = leaf(5, r0=HALF, r4=HALF)
        for bound in (minus(ONE, LITTLE), NOUGHT, LESS):
            self.assert_wrong(LONE, ([(1, ONE)], bound), prices)
        self.assert_wrong(LONE, ([(0, HALF), (1, LESS)], times(LITTLE, LESS)), leaf(5, r2=HALF, r3=HALF))

    def test_a_net_without_bends(self):
        parts = (2, [("sum", (1, 3), [(0, (2, 1)), (1, (-3, 1))])], [2])
        sides = [(LESS, (2, 1)), ((1, 2), (5, 1))]
        prices = leaf(4, r0=(2, 1), r3=(3, 1))
        self.assert_right(parts, ([(2, ONE)], (17, 6)), prices, sides)
        self.assert_wrong(parts, ([(2, ONE)], minus((17, 6), LITTLE)), prices, sides)
        self.assert_wrong(parts, ([(2, ONE)], (17, 6)), ("split", 0, prices, prices), sides)
        # The constant counts on the form's side.
        self.assert_right(parts, ([(2, (3, 1))], (17, 2)), leaf(4, r0=(6, 1), r3=(9, 1)), sides)

    def test_no_terms(self):
        for parts, count in ((LONE, 5), (TWINS, 8), ((1, [], [0]), 2)):
            for bound, right in ((NOUGHT, True), (ONE, True), (times(LITTLE, LESS), False)):
                (self.assert_right if right else self.assert_wrong)(parts, ([], bound), leaf(count))
        self.assert_right(LONE, ([], (2, 1)), leaf(5, r0=ONE, r1=ONE))
        self.assert_wrong(LONE, ([], minus((2, 1), LITTLE)), leaf(5, r0=ONE, r1=ONE))

    def test_a_place_twice(self):
        self.assert_right(LONE, ([(1, ONE), (1, ONE), (0, LESS)], ONE), leaf(5, r4=ONE))
        self.assert_right(LONE, ([(1, ONE), (1, LESS)], NOUGHT), leaf(5))

    def test_prices_that_miss_the_shares(self):
        saying = ([(1, ONE)], (100, 1))
        for prices in (leaf(5), leaf(5, r4=HALF), leaf(5, r0=HALF), leaf(5, r0=HALF, r4=plus(HALF, LITTLE)),
                       leaf(5, r0=plus(HALF, LITTLE), r4=HALF), leaf(5, r0=HALF, r1=LITTLE, r4=HALF),
                       leaf(5, r0=ONE, r4=ONE), leaf(5, r1=HALF, r4=HALF), leaf(5, r2=ONE)):
            self.assert_wrong(LONE, saying, prices)
        # Noughts alone show nothing while their bound is not below 0.
        self.assert_wrong(LONE, saying, leaf(5, r0=ONE, r1=ONE))

    def test_a_price_too_few_and_too_many(self):
        saying = ([(1, ONE)], ONE)
        right = priced(5, r0=HALF, r4=HALF)
        for prices in (right[:4], right[1:], right + [NOUGHT], [NOUGHT] + right, [], right * 2, [HALF, HALF]):
            self.assert_wrong(LONE, saying, ("leaf", prices))
        self.assert_wrong(LONE, ([], ONE), ("leaf", []))
        self.assert_wrong(LONE, ([], ONE), ("leaf", [NOUGHT] * 4))
        self.assert_wrong(LONE, ([], ONE), ("leaf", [NOUGHT] * 6))

    def test_a_price_below_nought(self):
        # -2 <= -2 x, by prices of which one is below 0, would show anything.
        self.assert_wrong(LONE, ([(0, LESS)], LESS), leaf(5, r0=LESS))
        self.assert_wrong(LONE, ([(1, ONE)], NOUGHT), leaf(5, r2=LESS))
        self.assert_wrong(LONE, ([], LESS), leaf(5, r0=LESS, r1=LESS))
        self.assert_wrong(LONE, ([], (-2, 10 ** 40)), leaf(5, r0=times(LITTLE, LESS), r1=times(LITTLE, LESS)))
        self.assert_wrong(LONE, ([], ONE), leaf(5, r0=times(LITTLE, LESS), r1=times(LITTLE, LESS)))

    def test_decided_bends_need_no_split(self):
        for sides, saying, prices in (
                ([(ONE, (2, 1))], ([(1, ONE), (0, LESS)], NOUGHT), leaf(5, r4=ONE)),
                ([(ONE, (2, 1))], ([(0, ONE), (1, LESS)], NOUGHT), leaf(5, r3=ONE)),
                ([((-2, 1), LESS)], ([(1, ONE)], NOUGHT), leaf(5, r4=ONE)),
                ([((-2, 1), NOUGHT)], ([(1, ONE)], NOUGHT), leaf(5, r4=ONE)),
                ([(NOUGHT, NOUGHT)], ([(1, ONE)], NOUGHT), leaf(5, r0=ONE, r4=ONE))):
            self.assert_right(LONE, saying, prices, sides)
            self.assert_wrong(LONE, (saying[0], times(LITTLE, LESS)), prices, sides)


class Splits(PaperTest):
    def test_a_split(self):
        self.assert_right(TWINS, TWINS_SAY, twins_tree())
        self.assert_right(TWINS, ([(2, ONE), (1, LESS)], NOUGHT), ("split", 1, leaf(6, r3=ONE), leaf(6, r2=ONE)))
        self.assert_wrong(TWINS, (TWINS_SAY[0], times(LITTLE, LESS)), twins_tree())

    def test_the_two_trees_exchanged(self):
        tree = twins_tree()
        self.assert_wrong(TWINS, TWINS_SAY, ("split", 0, tree[3], tree[2]))
        self.assert_wrong(TWINS, TWINS_SAY, ("split", 0, tree[2], tree[2]))
        self.assert_wrong(TWINS, TWINS_SAY, ("split", 0, tree[3], tree[3]))
        # Another bend's number asks for other prices.
        self.assert_wrong(TWINS, TWINS_SAY, ("split", 1, tree[2], tree[3]))

    def test_one_of_the_two_is_not_enough(self):
        tree = twins_tree()
        for wrong in (leaf(6), leaf(6, r4=LESS), ("leaf", []), None, ("split", 0, tree[2], tree[3])):
            self.assert_wrong(TWINS, TWINS_SAY, ("split", 0, tree[2], wrong))
            self.assert_wrong(TWINS, TWINS_SAY, ("split", 0, wrong, tree[3]))

    def test_splits_within_splits(self):
        # Where Y is split too, its variable falls out and its rows are one.
        within = ("split", 0, ("split", 1, leaf(4), leaf(4, r3=ONE)), ("split", 1, leaf(4, r3=ONE), leaf(4)))
        self.assert_right(TWINS, TWINS_SAY, within)
        other = ("split", 1, ("split", 0, leaf(4), leaf(4, r3=ONE)), ("split", 0, leaf(4, r3=ONE), leaf(4)))
        self.assert_right(TWINS, TWINS_SAY, other)
        self.assert_right(TWINS, TWINS_SAY, ("split", 0, within[2], leaf(6, r3=ONE)))
        self.assert_wrong(TWINS, TWINS_SAY, ("split", 0, within[3], within[2]))
        self.assert_wrong(TWINS, TWINS_SAY, ("split", 0, ("split", 1, leaf(4, r3=ONE), leaf(4)), within[3]))

    def test_rows_that_mix_to_noughts_and_a_bound_below_nought(self):
        # Both are on: -x <= 0 and x <= -1/2. Whatever is said holds there.
        for saying in (([(1, ONE), (3, ONE)], (7, 1)), ([(0, (5, 1))], (6, 1)), ([], NOUGHT)):
            empty = leaf(4, r2=ONE, r3=ONE)
            # Elsewhere 1 + 1/2 are as much as the two come to; 5 x comes to 5.
            rest = {7: (leaf(4, r0=ONE), leaf(4, r1=ONE), leaf(4)), 6: (leaf(4, r0=(5, 1)),) * 3, 0: (leaf(4),) * 3}
            one, two, three = rest[saying[1][0]]
            tree = ("split", 0, ("split", 1, empty, one), ("split", 1, two, three))
            self.assert_right(APART, saying, tree)
            for wrong in (leaf(4, r2=ONE), leaf(4, r3=ONE), leaf(4, r2=ONE, r3=HALF), leaf(4, r2=LESS, r3=LESS),
                          leaf(4, r0=HALF, r2=HALF, r3=ONE) if saying[0] else leaf(4, r2=HALF, r3=ONE)):
                self.assert_wrong(APART, saying, ("split", 0, ("split", 1, wrong, one), ("split", 1, two, three)))

    def test_noughts_and_a_bound_of_just_nought(self):
        # x >= 0 and x <= 0 can both be, at nought.
        parts = (1, [("bend", 0), ("sum", NOUGHT, [(0, LESS)]), ("bend", 2)], [1])
        for bound in (NOUGHT, LESS):
            wrong = ("split", 0, ("split", 1, leaf(4, r2=ONE, r3=ONE), leaf(4)), ("split", 1, leaf(4), leaf(4)))
            self.assert_wrong(parts, ([(0, (3, 1))], bound), wrong)

    def test_a_bend_that_is_no_longer_open(self):
        tree = twins_tree()
        self.assert_wrong(TWINS, TWINS_SAY, ("split", 0, ("split", 0, tree[2], tree[2]), tree[3]))
        self.assert_wrong(TWINS, TWINS_SAY, ("split", 0, tree[2], ("split", 0, tree[3], tree[3])))
        within = ("split", 1, ("split", 0, leaf(4), leaf(4)), ("split", 0, leaf(4), leaf(4)))
        self.assert_wrong(TWINS, ([], NOUGHT), ("split", 0, within, within))
        self.assert_right(TWINS, ([], NOUGHT), within)

    def test_a_number_that_no_bend_has(self):
        for parts, count in ((LONE, 3), (TWINS, 6)):
            for k in (2, 3, -1, -2, -3, 99, 10 ** 30, -10 ** 30) + ((1,) if parts == LONE else ()):
                self.assert_wrong(parts, ([], NOUGHT), ("split", k, leaf(count), leaf(count)))
                self.assert_wrong(parts, ([], NOUGHT), ("split", k, leaf(count + 2), leaf(count + 2)))
            self.assert_right(parts, ([], NOUGHT), ("split", 0, leaf(count), leaf(count)))

    def test_twenty_bends(self):
        parts = (1, [("bend", 0)] * 20, [1])
        tree = leaf(22)
        for k in range(20):
            tree = ("split", k, tree, leaf(2 + 3 * k + 20 - k))
        self.assert_right(parts, ([], NOUGHT), tree)
        self.assert_wrong(parts, ([], NOUGHT), ("split", 19, tree, tree))
        self.assert_wrong(parts, ([], NOUGHT), ("split", 3, tree, tree))


class Anything(PaperTest):
    """Of anything as the tree: False, never anything else."""

    def assert_no_tree(self, thing):
        """Neither right by itself nor as a part of a tree."""
        self.assert_wrong(LONE, ([], ONE), thing)
        self.assert_wrong(LONE, ([], ONE), ("split", 0, thing, leaf(3)))
        self.assert_wrong(LONE, ([], ONE), ("split", 0, leaf(3), thing))
        self.assert_wrong(TWINS, TWINS_SAY, ("split", 0, ("split", 1, thing, thing), thing))

    def test_no_tuple(self):
        right = priced(5)
        for thing in strange_things() + [0, 1, -1, "", "leaf", "split", ["leaf", right], right, {"leaf": right},
                                         {0: "leaf", 1: right}, Net(*LONE), Box(SIDES), iter(("leaf", right))]:
            self.assert_no_tree(thing)

    def test_too_short_and_too_long(self):
        for count in (3, 5, 6, 8):
            right = leaf(count)
            for thing in (("leaf",), ("leaf", right[1], right[1]), ("leaf", right[1], None), ("leaf", 0, right, right),
                          ("split",), ("split", 0), ("split", 0, right), ("split", 0, right, right, right),
                          ("split", right, right), ("split", right[1]), (right,), (right, right), (right[1],), (right[1], "leaf")):
                self.assert_no_tree(thing)

    def test_another_word_ahead(self):
        for word in strange_things() + ["", "Leaf", "leaf ", " leaf", "LEAF", "leaves", "Split", "splits", "split ", 0, 1]:
            for count in (3, 5):
                self.assert_no_tree((word, priced(count)))
                self.assert_no_tree((word, 0, leaf(count), leaf(count)))

    def test_prices_that_are_no_list(self):
        for count in (3, 5, 4, 6):
            right = priced(count)
            for thing in strange_things() + ["", "0" * count, 0, count, tuple(right), dict(enumerate(right)), iter(right),
                                             [right], range(count), [tuple(right)]]:
                self.assert_no_tree(("leaf", thing))

    def test_prices_that_are_no_ratios(self):
        for thing in no_ratios() + ["0", Fraction(0), Fraction(1), (0, True), (0, -1), (0, 0), (2, 2), (0, 3)]:
            for count in (3, 5, 4, 6):
                for at in (0, count - 1):
                    prices = priced(count)
                    prices[at] = thing
                    self.assert_no_tree(("leaf", prices))
            prices = priced(5, r0=HALF, r4=HALF)
            for at in (1, 2, 3):
                self.assert_wrong(LONE, ([(1, ONE)], (100, 1)), ("leaf", prices[:at] + [thing] + prices[at + 1:]))

    def test_a_right_tree_with_prices_not_in_lowest_terms(self):
        saying = ([(1, ONE)], ONE)
        self.assert_right(LONE, saying, leaf(5, r0=HALF, r4=HALF))
        for half in ((2, 4), (-1, -2), [1, 2], (1, 2, 1), (Indexed(), 4), (True, 2), (1, 2.0)):
            self.assert_wrong(LONE, saying, leaf(5, r0=half, r4=HALF))
            self.assert_wrong(LONE, saying, leaf(5, r0=HALF, r4=half))

    def test_no_number_of_a_bend(self):
        for k in strange_things() + ["0", "", (0,), Touchy(), Indexed(), Fraction(0), (0, 1)]:
            self.assert_no_tree(("split", k, leaf(3), leaf(3)))
            self.assert_wrong(TWINS, TWINS_SAY, ("split", k) + twins_tree()[2:])
        # True and False would be the numbers of bends, were they whole numbers.
        self.assert_right(TWINS, ([], ONE), ("split", 1, leaf(6), leaf(6)))
        self.assert_wrong(TWINS, ([], ONE), ("split", True, leaf(6), leaf(6)))
        self.assert_wrong(TWINS, ([], ONE), ("split", False, leaf(6), leaf(6)))

    def test_things_nested_deep(self):
        deep = leaf(5)
        listed = []
        for _ in range(90):
            deep = ("split", 0, deep, deep)
            listed = [listed]
        self.assert_no_tree(deep)
        self.assert_no_tree(listed)
        self.assert_no_tree(("leaf", listed))


class Soundness(PaperTest):
    def changed(self, tree, chance):
        """A tree with one thing of it changed."""
        if tree[0] == "split" and chance.random() < 0.8:
            at = chance.choice((2, 3))
            return tree[:at] + (self.changed(tree[at], chance),) + tree[at + 1:]
        if tree[0] == "split":
            return (("split", tree[1], tree[3], tree[2]), ("split", tree[1] + 1) + tree[2:], tree[2])[chance.randrange(3)]
        prices = list(tree[1])
        at = chance.randrange(len(prices))
        prices[at] = plus(prices[at], chance.choice((ONE, LESS, LITTLE, times(LITTLE, LESS), (1, 3))))
        return ("leaf", prices[:-1] if chance.random() < 0.1 else prices)

    def test_as_reckoned_apart_from_the_program_and_never_right_where_the_saying_fails(self):
        chance = random.Random(29)
        counts = {True: 0, False: 0}
        for parts, sides in some_nets(48):
            terms = some_terms(chance, parts[0] + len(parts[1]))
            value, _, tree = greatest(Net(*parts), Box(sides), terms)
            for bound in (value, plus(value, LITTLE), plus(value, ONE), minus(value, LITTLE), minus(value, ONE)):
                for one in [tree] + [self.changed(tree, chance) for _ in range(4)]:
                    right = self.told(parts, (terms, bound), one, sides)
                    self.assertEqual(right, right_by_hand(parts, sides, (terms, bound), one))
                    counts[right] += 1
                    if right:
                        for point in points_in(sides, 2):
                            self.assertLessEqual(terms_at(parts[1], terms, point), Fraction(*bound))
        self.assertGreater(min(counts.values()), 100)

    def test_nothing_that_is_handed_in_is_changed(self):
        for parts, saying, tree in ((LONE, ([(1, ONE)], ONE), leaf(5, r0=HALF, r4=HALF)), (TWINS, TWINS_SAY, twins_tree()),
                                    (TWINS, TWINS_SAY, ("split", 0, [], None))):
            net = Net(*parts)
            box = Box(SIDES)
            handed = copy.deepcopy((saying, tree))
            told = right_tree(net, box, *handed)
            self.assertEqual(handed, (saying, tree))
            self.assertEqual(net.told(), parts)
            self.assertEqual(box.told(), SIDES)
            self.assertEqual(right_tree(net, box, *handed), told)

    def test_prices_of_many_figures(self):
        great = (7 ** 3000, 2 ** 3000)
        self.assert_right(LONE, ([(1, great)], great), leaf(5, r0=times(great, HALF), r4=times(great, HALF)))
        self.assert_wrong(LONE, ([(1, great)], minus(great, LITTLE)), leaf(5, r0=times(great, HALF), r4=times(great, HALF)))

    def test_as_many_prices_as_rows_in_each_case(self):
        for parts, sides in some_nets(24):
            net = Net(*parts)
            box = Box(sides)
            case = ["open"] * len(net.bends())
            self.assert_right(parts, ([], NOUGHT), leaf(len(rows_in(net, box, case))), sides)
            if case:
                counts = [len(rows_in(net, box, [state] + case[1:])) for state in ("on", "off")]
                self.assert_right(parts, ([], NOUGHT), ("split", 0, leaf(counts[0]), leaf(counts[1])), sides)


class Holds(unittest.TestCase):
    def setUp(self):
        self.net = Net(2, [("sum", (-1, 2), [(0, (3, 1)), (1, ONE)]), ("bend", 2)], [3])

    def assert_holds(self, expected, terms, bound, point):
        told = holds(self.net, (terms, bound), point)
        self.assertIs(told, expected)

    def test_at_and_beside_the_bound(self):
        # At (1, 1/2) the sum is 3, at (-1, 0) it is -7/2.
        for terms, point, value in (([(3, ONE)], [ONE, HALF], (3, 1)), ([(2, (-2, 1))], [LESS, NOUGHT], (7, 1)),
                                    ([(3, (5, 1)), (0, ONE)], [LESS, NOUGHT], LESS), ([(1, (1, 3))], [ONE, HALF], (1, 6))):
            self.assert_holds(True, terms, value, point)
            self.assert_holds(True, terms, plus(value, LITTLE), point)
            self.assert_holds(False, terms, minus(value, LITTLE), point)
            self.assert_holds(True, terms, plus(value, ONE), point)
            self.assert_holds(False, terms, minus(value, ONE), point)

    def test_no_terms(self):
        for point in ([ONE, HALF], [NOUGHT, NOUGHT]):
            self.assert_holds(True, [], NOUGHT, point)
            self.assert_holds(True, [], LITTLE, point)
            self.assert_holds(False, [], times(LITTLE, LESS), point)

    def test_a_place_twice(self):
        self.assert_holds(True, [(3, ONE), (3, ONE)], (6, 1), [ONE, HALF])
        self.assert_holds(False, [(3, ONE), (3, ONE)], minus((6, 1), LITTLE), [ONE, HALF])
        self.assert_holds(True, [(3, ONE), (3, LESS)], NOUGHT, [ONE, HALF])
        self.assert_holds(False, [(3, ONE), (3, LESS)], times(LITTLE, LESS), [ONE, HALF])

    def test_some_by_chance(self):
        chance = random.Random(31)
        for parts, sides in some_nets(30):
            net = Net(*parts)
            terms = some_terms(chance, parts[0] + len(parts[1]))
            for point in points_in(sides, 2)[:6]:
                value = pair(terms_at(parts[1], terms, point))
                saying = (terms, value)
                handed = copy.deepcopy((saying, pairs(point)))
                self.assertIs(holds(net, *handed), True)
                self.assertIs(holds(net, (terms, minus(value, LITTLE)), pairs(point)), False)
                self.assertEqual(handed, (saying, pairs(point)))
            self.assertEqual(net.told(), parts)


if __name__ == "__main__":
    unittest.main()
