"""What several tests need: how refusals, ratios and lists are checked, things of other kinds, long numbers, nets."""

import itertools
import math
import random
from fractions import Fraction

from bendproof.errors import BendError, NoBox, NoLine, NoNet, NoRatio, NoText, Unlike

REFUSALS = (NoRatio, NoText, NoBox, NoNet, Unlike, NoLine)


class Indexed:
    """Can stand in for an int in Python, and is none."""

    def __index__(self):
        return 2

    __int__ = __index__


class Touchy:
    """Fails when it is held against anything."""

    def __eq__(self, other):
        raise RuntimeError("held against something")

    __hash__ = None

    def __bool__(self):
        raise RuntimeError("asked for its truth")

    __len__ = __bool__


def strange_things():
    """Things that are neither whole numbers nor texts."""
    return [True, False, None, 0.0, 1.0, float("nan"), float("inf"), 1j, b"", b"1", [], [1], [1, 2], (), (1,),
            (1, 2), (2, 4), {}, {1: 2}, set(), {1}, frozenset(), range(3), object(), int, str, len, NoRatio,
            NoRatio("1"), Indexed(), Touchy(), lambda: 1, ...]


def assert_refused(test, refusal, call, *things):
    """The call is refused with just this refusal, which is none of the others."""
    with test.assertRaises(BendError) as caught:
        call(*things)
    error = caught.exception
    test.assertIsInstance(error, ValueError)
    for other in REFUSALS:
        test.assertEqual(isinstance(error, other), other is refusal, other)


def long_number(many, start):
    """A number of so many times nine figures, and its figures; Python's own str may refuse it."""
    number = 0
    pieces = []
    piece = start
    for _ in range(many):
        piece = 100000000 + (piece * 48271 + 11) % 899999999
        number = number * 10 ** 9 + piece
        pieces.append(str(piece))
    return number, "".join(pieces)


def no_ratios():
    """Things of any kind that are no ratios."""
    wrong = [thing for thing in strange_things() if not (isinstance(thing, tuple) and thing == (1, 2))]
    wrong += [0, 1, -1, "", "1", "1/2", (1, 2, 3), (0, 0), (1, 0), (-1, 0), (0, 2), (0, -1), (1, -1), (1, -2), (-3, -6),
              (6, 3), (10 ** 600, 10 ** 500), (True, 1), (False, 1), (1, True), (True, True), (1, False), (None, 1),
              (1, None), ("1", 1), (1, "1"), "12", (1.0, 1), (1, 1.0), (1.0, 2.0), ((1, 1), (1, 1)), [1, 1], [(1, 1)],
              ([1], [1]), ((1,), 1), {1: 1, 2: 1}, Fraction(1, 2), (Touchy(), 1), (1, Touchy()), (Indexed(), 1),
              (1, Indexed()), (Fraction(1), 1), b"12"]
    return wrong


def assert_ratio(test, one):
    """The thing is a ratio in lowest terms, of plain kinds."""
    test.assertEqual([type(one), type(one[0]), type(one[1]), len(one)], [tuple, int, int, 2])
    test.assertGreater(one[1], 0)
    test.assertEqual(math.gcd(*one), 1)


def pair(fraction):
    """A fraction as a ratio."""
    return (Fraction(fraction).numerator, Fraction(fraction).denominator)


def pairs(several):
    return [pair(one) for one in several]


def fractions(several):
    return [Fraction(*one) for one in several]


def lists_within(thing):
    """Each list within a thing, itself too, as often as it stands there."""
    found = [thing] if isinstance(thing, list) else []
    if isinstance(thing, (list, tuple)):
        for part in thing:
            found += lists_within(part)
    return found


def assert_own_lists(test, tellings, handed=()):
    """No list stands in two places of what was told, nor in what was handed in."""
    found = [id(one) for telling in tellings for one in lists_within(telling)]
    test.assertEqual(len(found), len(set(found)))
    test.assertEqual(set(found) & {id(one) for one in lists_within(handed)}, set())


def spoil(thing):
    """Changes each list within a thing, at any depth."""
    for one in lists_within(thing):
        one.append("spoilt")
        one.insert(0, "spoilt")
        one[len(one) // 2] = "spoilt"


def walk(units, point):
    """Each place's value, reckoned apart from the program: fractions in, fractions out."""
    found = list(point)
    for unit in units:
        if unit[0] == "bend":
            found.append(max(found[unit[1]], Fraction(0)))
        else:
            found.append(Fraction(*unit[1]) + sum(Fraction(*share) * found[place] for place, share in unit[2]))
    return found


def some_ratio(chance, bottoms=(1, 1, 2, 3)):
    return pair(Fraction(chance.randint(-4, 4), chance.choice(bottoms)))


def some_net(chance, many, count):
    """A net's parts by chance: how many ins, so many units, some outs."""
    units = []
    bends = 0
    for k in range(count):
        end = many + k
        if bends < 20 and chance.random() < 0.4:
            units.append(("bend", chance.randrange(end)))
            bends += 1
        else:
            places = chance.sample(range(end), chance.randint(0, min(end, 4)))
            units.append(("sum", some_ratio(chance), [(place, some_ratio(chance)) for place in places]))
    outs = [chance.randrange(many + count) for _ in range(chance.randint(1, 12))]
    return many, units, outs


def some_sides(chance, many):
    """Sides of a box by chance, some of one ratio alone."""
    sides = []
    for _ in range(many):
        one, other = sorted(fractions([some_ratio(chance), some_ratio(chance)]))
        sides.append((pair(one), pair(one if chance.random() < 0.2 else other)))
    return sides


def some_nets(many=60):
    """Nets' parts with sides of a box for each, the same at every call."""
    chance = random.Random(7)
    found = []
    for k in range(many):
        ins = 1 + k % 6
        found.append((some_net(chance, ins, chance.choice((0, 1, 4, 9, 16))), some_sides(chance, ins)))
    return found


def points_in(sides, many=12):
    """Points of a box: its corners, its middle, and some by chance."""
    chance = random.Random(11)
    ends = [(Fraction(*low), Fraction(*high)) for low, high in sides]
    found = [list(corner) for corner in itertools.product(*ends)]
    found.append([(low + high) / 2 for low, high in ends])
    for _ in range(many):
        found.append([low + (high - low) * Fraction(chance.randint(0, 12), 12) for low, high in ends])
    return found


def twice_over(many=80):
    """Units of a net with one in, of which each stands on the ones ahead twice over."""
    units = [("sum", (0, 1), [(0, (1, 1))])]
    for place in range(2, many + 1):
        if place % 4 == 0:
            units.append(("bend", place - 1))
        else:
            units.append(("sum", (1, 1), [(place - 1, (1, 1)), (place - 2, (1, 2))]))
    return units
