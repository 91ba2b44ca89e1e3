"""Ratios: tuples (top, bottom) of whole numbers in lowest terms, and how they are written."""

from bendproof.errors import NoRatio, NoText

NOUGHT = (0, 1)
ONE = (1, 1)
MINUS_ONE = (-1, 1)
FIGURES = "0123456789"
MOST_FIGURES = 60


def is_whole(thing):
    """True where the thing, of any kind, is a whole number."""
    # Python counts True and False among the ints.
    return isinstance(thing, int) and not isinstance(thing, bool)


def common(one, other):
    """The greatest whole number that divides both, which are from 0 on and not both 0."""
    while other != 0:
        rest = one % other
        one = other
        other = rest
    return one


def ratio(top, bottom):
    """The ratio of top parted by bottom, of anything, or NoRatio."""
    if not is_whole(top) or not is_whole(bottom) or bottom == 0:
        raise NoRatio("a ratio is made of two whole numbers, the second not 0")
    by = common(abs(top), abs(bottom))
    if bottom < 0:
        by = -by
    return (top // by, bottom // by)


def is_ratio(thing):
    """True where the thing, of any kind, is a ratio."""
    if not isinstance(thing, tuple) or len(thing) != 2:
        return False
    if not is_whole(thing[0]) or not is_whole(thing[1]) or thing[1] < 1:
        return False
    return common(abs(thing[0]), thing[1]) == 1


def plain(one):
    """A ratio that was handed in, as a tuple and whole numbers of Python's own."""
    return (int(one[0]), int(one[1]))


def plus(one, other):
    """The sum of two ratios."""
    by = common(one[1], other[1])
    top = one[0] * (other[1] // by) + other[0] * (one[1] // by)
    # Of what divides the bottom only what divides both bottoms can divide the top, and this is mostly short.
    rest = common(abs(top), by)
    return (top // rest, (one[1] // by) * (other[1] // rest))


def minus(one, other):
    """The first ratio less the other."""
    return plus(one, (-other[0], other[1]))


def times(one, other):
    """The product of two ratios."""
    # Each ratio is in lowest terms already, so each top is held against the other's bottom alone.
    by = common(abs(one[0]), other[1])
    across = common(abs(other[0]), one[1])
    return ((one[0] // by) * (other[0] // across), (one[1] // across) * (other[1] // by))


def over(one, other):
    """The first ratio parted by the other, or NoRatio where this is nought."""
    if other[0] == 0:
        raise NoRatio("nothing is parted by nought")
    if other[0] < 0:
        return times(one, (-other[1], -other[0]))
    return times(one, (other[1], other[0]))


def less(one, other):
    """True where the first ratio is below the other, else False."""
    return one[0] * other[1] < other[0] * one[1]


def bent(one):
    """A ratio where it is above 0, else 0."""
    return one if less(NOUGHT, one) else NOUGHT


def over_one_bottom(several):
    """Ratios as a tuple of their tops over one bottom, a list, and this bottom."""
    bottom = 1
    for one in several:
        bottom = bottom // common(bottom, one[1]) * one[1]
    return ([one[0] * (bottom // one[1]) for one in several], bottom)


def figures(number):
    """A whole number from 0 on in figures, however many these are."""
    # Python's own str refuses numbers of some thousand figures, so it is handed short pieces.
    step = 10 ** 60
    pieces = []
    while number >= step:
        pieces.append(str(number % step).zfill(60))
        number = number // step
    pieces.append(str(number))
    return "".join(reversed(pieces))


def shown(one):
    """A ratio as a text."""
    text = figures(abs(one[0]))
    if one[0] < 0:
        text = "-" + text
    if one[1] != 1:
        text = text + "/" + figures(one[1])
    return text


def read_whole(text):
    """The whole number from 0 on that a text's figures tell, or NoText."""
    if len(text) < 1 or len(text) > MOST_FIGURES:
        raise NoText("a number is written in one to sixty figures")
    # Python's own int would also take blanks, signs, underscores and figures of other scripts.
    if not all([sign in FIGURES for sign in text]):
        raise NoText("a number is written in figures alone")
    if text.startswith("0") and text != "0":
        raise NoText("a number is written without a nought ahead")
    return int(text)


def read_top(text):
    """The whole number of either sign that a text tells, or NoText."""
    if text.startswith("-"):
        return -read_whole(text[1:])
    return read_whole(text)


def read(text):
    """The ratio that is written just so, of anything, or NoText."""
    if not isinstance(text, str):
        raise NoText("a ratio is read from a text")
    parts = text.partition("/")
    top = read_top(parts[0])
    bottom = 1 if parts[1] == "" else read_whole(parts[2])
    if bottom == 0:
        raise NoText("a ratio's bottom is not 0")
    one = ratio(top, bottom)
    # What is left are -0, a bottom of 1, and what is not in lowest terms.
    if shown(one) != text:
        raise NoText("a ratio is written in lowest terms")
    return one
