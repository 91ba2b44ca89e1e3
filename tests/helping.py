"""What several tests need: how refusals, ratios and lists are checked, things of other kinds, long numbers, nets."""

import itertools
import math
import random
from fractions import Fraction

from bendproof.errors import BendError, NoBox, NoLine, NoNet, NoRatio, NoText, Unlike

REFUSALS = (NoRatio, NoText, NoBox, NoNet, Unlike, NoLine)


class Indexed:
    """Can stand in for an int in Python, and is none."""

    def __index__(self):
        return 2

    __int__ = __index__


class Touchy:
    """Fails when it is held against anything."""

    def __eq__(self, other):
        raise RuntimeError("held against something")

    __hash__ = None

    def __bool__(self):
        raise RuntimeError("asked for its truth")

    __len__ = __bool__


def strange_things():
    """Things that are neither whole numbers nor texts."""
    return [True, False, None, 0.0, 1.0, float("nan"), float("inf"), 1j, b"", b"1", [], [1], [1, 2], (), (1,),
            (1, 2), (2, 4), {}, {1: 2}, set(), {1}, frozenset(), range(3), object(), int, str, len, NoRatio,
            NoRatio("1"), Indexed(), Touchy(), lambda: 1, ...]


def assert_refused(test, refusal, call, *things):
    """The call is refused with just this refusal, which is none of the others."""
    with test.assertRaises(BendError) as caught:
        call(*things)
    error = caught.exception
    test.assertIsInstance(error, ValueError)
    for other in REFUSALS:
        test.assertEqual(isinstance(error, other), other is refusal, other)


def long_number(many, start):
    """A number of so many times nine figures, and its figures; Python's own str may refuse it."""
    number = 0
    pieces = []
    piece = start
    for _ in range(many):
        piece = 100000000 + (piece * 48271 + 11) % 899999999
        number = number * 10 ** 9 + piece
        pieces.append(str(piece))
    return number, "".join(pieces)


def no_ratios():
    """Things of any kind that are no ratios."""
    wrong = [thing for thing in strange_things() if not (isinstance(thing, tuple) and thing == (1, 2))]
    wrong += [0, 1, -1, "", "1", "1/2", (1, 2, 3), (0, 0), (1, 0), (-1, 0), (0, 2), (0, -1), (1, -1), (1, -2), (-3, -6),
              (6, 3), (10 ** 600, 10 ** 500), (True, 1), (False, 1), (1, True), (True, True), (1, False), (None, 1),
              (1, None), ("1", 1), (1, "1"), "12", (1.0, 1), (1, 1.0), (1.0, 2.0), ((1, 1), (1, 1)), [1, 1], [(1, 1)],
              ([1], [1]), ((1,), 1), {1: 1, 2: 1}, Fraction(1, 2), (Touchy(), 1), (1, Touchy()), (Indexed(), 1),
              (1, Indexed()), (Fraction(1), 1), b"12"]
    return wrong


def assert_ratio(test, one):
    """The thing is a ratio in lowest terms, of plain kinds."""
    test.assertEqual([type(one), type(one[0]), type(one[1]), len(one)], [tuple, int, int, 2])
    test.assertGreater(one[1], 0)
    test.assertEqual(math.gcd(*one), 1)


def pair(fraction):
    """A fraction as a ratio."""
    return (Fraction(fraction).numerator, Fraction(fraction).denominator)


def pairs(several):
    return [pair(one) for one in several]


def fractions(several):
    return [Fraction(*one) for one in several]


def lists_within(thing):
    """Each list within a thing, itself too, as often as it stands there."""
    found = [thing] if isinstance(thing, list) else []
    if isinstance(thing, (list, tuple)):
        for part in thing:
            found += lists_within(part)
    return found


def assert_own_lists(test, tellings, handed=()):
    """No list stands in two places of what was told, nor in what was handed in."""
    found = [id(one) for telling in tellings for one in lists_within(telling)]
    test.assertEqual(len(found), len(set(found)))
    test.assertEqual(set(found) & {id(one) for one in lists_within(handed)}, set())


def spoil(thing):
    """Changes each list within a thing, at any depth."""
    for one in lists_within(thing):
        one.append("spoilt")
        one.insert(0, "spoilt")
        one[len(one) // 2] = "spoilt"


def walk(units, point):
    """Each place's value, reckoned apart from the program: fractions in, fractions out."""
    found = list(point)
    for unit in units:
        if unit[0] == "bend":
            found.append(max(found[unit[1]], Fraction(0)))
        else:
            found.append(Fraction(*unit[1]) + sum(Fraction(*share) * found[place] for place, share in unit[2]))
    return found


def some_ratio(chance, bottoms=(1, 1, 2, 3)):
    return pair(Fraction(chance.randint(-4, 4), chance.choice(bottoms)))


def some_net(chance, many, count):
    """A net's parts by chance: how many ins, so many units, some outs."""
    units = []
    bends = 0
    for k in range(count):
        end = many + k
        if bends < 20 and chance.random() < 0.4:
            units.append(("bend", chance.randrange(end)))
            bends += 1
        else:
            places = chance.sample(range(end), chance.randint(0, min(end, 4)))
            units.append(("sum", some_ratio(chance), [(place, some_ratio(chance)) for place in places]))
    outs = [chance.randrange(many + count) for _ in range(chance.randint(1, 12))]
    return many, units, outs


def layers(chance, many, widths):
    """Layers of bends of sums of all that stands in the layer ahead, and a sum of the last one, which is the out."""
    units = []
    ahead = list(range(many))
    for width in widths:
        start = many + len(units)
        units += [("sum", some_ratio(chance), [(place, some_ratio(chance)) for place in ahead]) for _ in range(width)]
        units += [("bend", start + k) for k in range(width)]
        ahead = [start + width + k for k in range(width)]
    units.append(("sum", (0, 1), [(place, some_ratio(chance)) for place in ahead]))
    return many, units, [many + len(units) - 1]


def some_sides(chance, many):
    """Sides of a box by chance, some of one ratio alone."""
    sides = []
    for _ in range(many):
        one, other = sorted(fractions([some_ratio(chance), some_ratio(chance)]))
        sides.append((pair(one), pair(one if chance.random() < 0.2 else other)))
    return sides


def some_nets(many=60):
    """Nets' parts with sides of a box for each, the same at every call."""
    chance = random.Random(7)
    found = []
    for k in range(many):
        ins = 1 + k % 6
        found.append((some_net(chance, ins, chance.choice((0, 1, 4, 9, 16))), some_sides(chance, ins)))
    return found


def points_in(sides, many=12):
    """Points of a box: its corners, its middle, and some by chance."""
    chance = random.Random(11)
    ends = [(Fraction(*low), Fraction(*high)) for low, high in sides]
    found = [list(corner) for corner in itertools.product(*ends)]
    found.append([(low + high) / 2 for low, high in ends])
    for _ in range(many):
        found.append([low + (high - low) * Fraction(chance.randint(0, 12), 12) for low, high in ends])
    return found


def twice_over(many=80):
    """Units of a net with one in, of which each stands on the ones ahead twice over."""
    units = [("sum", (0, 1), [(0, (1, 1))])]
    for place in range(2, many + 1):
        if place % 4 == 0:
            units.append(("bend", place - 1))
        else:
            units.append(("sum", (1, 1), [(place - 1, (1, 1)), (place - 2, (1, 2))]))
    return units


def spans_by_hand(units, sides):
    """Each place's span, reckoned apart from the program in fractions."""
    found = [(Fraction(*low), Fraction(*high)) for low, high in sides]
    for unit in units:
        if unit[0] == "bend":
            found.append(tuple(max(end, Fraction(0)) for end in found[unit[1]]))
        else:
            ranges = [sorted(Fraction(*share) * end for end in found[place]) for place, share in unit[2]]
            found.append(tuple(Fraction(*unit[1]) + sum(pick[k] for pick in ranges) for k in (0, 1)))
    return found


def combined(parts, count):
    """The sum of forms (lists of so many fractions), each times its share."""
    return [sum((share * form[k] for share, form in parts), Fraction(0)) for k in range(count)]


def forms_by_hand(many, units, case):
    """Each place's form in a case, reckoned apart from the program in fractions."""
    count = 1 + many + case.count("open")
    lone = [[Fraction(k == j) for k in range(count)] for j in range(count)]
    found = lone[1:many + 1]
    states = iter(case)
    opened = iter(lone[many + 1:])
    for unit in units:
        if unit[0] == "sum":
            terms = [(Fraction(*share), found[place]) for place, share in unit[2]]
            found.append(combined([(Fraction(*unit[1]), lone[0])] + terms, count))
        else:
            state = next(states)
            found.append({"on": found[unit[1]], "off": [Fraction(0)] * count}.get(state) or next(opened))
    return found


def rows_by_hand(many, units, sides, case):
    """The rows of a case, reckoned apart from the program in fractions: (shares, bound)."""
    forms = forms_by_hand(many, units, case)
    widths = spans_by_hand(units, sides)
    bends = [many + k for k, unit in enumerate(units) if unit[0] == "bend"]
    # Each is a form, and the number that it is not above.
    caps = []
    for form, (low, high) in zip(forms[:many], widths):
        caps += [(form, high), ([-part for part in form], -low)]
    for place, state in zip(bends, case):
        form, (low, high) = forms[units[place - many][1]], widths[units[place - many][1]]
        below = [-part for part in form]
        if state != "open":
            caps.append((below if state == "on" else form, 0))
            continue
        own = forms[place]
        caps += [([-part for part in own], 0), ([a - b for a, b in zip(form, own)], 0)]
        if low < 0 < high:
            caps.append(([(high - low) * b - high * a for a, b in zip(form, own)], -high * low))
        elif low >= 0:
            caps.append(([b - a for a, b in zip(form, own)], 0))
        else:
            caps.append((own, 0))
    return [(form[1:], number - form[0]) for form, number in caps]


def right_by_hand(net, sides, saying, tree, case=None):
    """Whether a tree that is made as told is right, reckoned apart from the program."""
    many, units, _ = net
    if case is None:
        case = ["open" for unit in units if unit[0] == "bend"]
    if tree[0] == "split":
        k = tree[1]
        if k not in range(len(case)) or case[k] != "open":
            return False
        return all(right_by_hand(net, sides, saying, part, case[:k] + [state] + case[k + 1:])
                   for part, state in zip(tree[2:], ("on", "off")))
    rows = rows_by_hand(many, units, sides, case)
    prices = fractions(tree[1])
    if len(prices) != len(rows) or any(price < 0 for price in prices):
        return False
    count = many + case.count("open")
    forms = forms_by_hand(many, units, case)
    form = combined([(Fraction(*share), forms[place]) for place, share in saying[0]], count + 1)
    total = combined([(price, shares + [bound]) for price, (shares, bound) in zip(prices, rows)], count + 1)
    if total[:-1] == form[1:] and total[-1] + form[0] <= Fraction(*saying[1]):
        return True
    return not any(total[:-1]) and total[-1] < 0


def leaves_of(tree):
    """The prices of each leaf of a tree."""
    return [tree[1]] if tree[0] == "leaf" else leaves_of(tree[2]) + leaves_of(tree[3])


def terms_at(units, terms, point):
    """What terms come to at a point of fractions, reckoned apart from the program."""
    values = walk(units, point)
    return sum((Fraction(*share) * values[place] for place, share in terms), Fraction(0))


def some_terms(chance, count, most=4):
    """Terms over so many places by chance, perhaps none, perhaps a place twice."""
    return [(chance.randrange(count), some_ratio(chance)) for _ in range(chance.randint(0, most))]
