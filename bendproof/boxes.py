"""Boxes: a side of ratios from a low to a high for each in."""

from bendproof.errors import NoBox
from bendproof.ratios import NOUGHT, is_ratio, less, plain, plus, times

MOST_SIDES = 6


def checked_side(side):
    """A copy of a side, of anything, or NoBox."""
    if not isinstance(side, tuple) or len(side) != 2:
        raise NoBox("a side is a tuple of two ratios")
    if not is_ratio(side[0]) or not is_ratio(side[1]):
        raise NoBox("a side goes from a ratio to a ratio")
    if less(side[1], side[0]):
        raise NoBox("a side's low is not above its high")
    return (plain(side[0]), plain(side[1]))


def form_ends(form, sides):
    """The least and the greatest value of a form whose variables have these sides; shares beyond them count nothing."""
    least = form[0]
    greatest = form[0]
    for share, side in zip(form[1:], sides):
        falls = less(share, NOUGHT)
        least = plus(least, times(share, side[1] if falls else side[0]))
        greatest = plus(greatest, times(share, side[0] if falls else side[1]))
    return (least, greatest)


class Box:
    """All points that have a ratio in each side."""

    def __init__(self, sides):
        if not isinstance(sides, list) or len(sides) < 1 or len(sides) > MOST_SIDES:
            raise NoBox("a box is made of a list of one to six sides")
        self.sides = [checked_side(side) for side in sides]

    def told(self):
        """The list of sides."""
        return list(self.sides)

    def has(self, point):
        """True where a list of ratios, however many, is a point of the box."""
        if len(point) != len(self.sides):
            return False
        return not any([less(at, side[0]) or less(side[1], at) for at, side in zip(point, self.sides)])

    def ends(self, form):
        """The least and the greatest value that a form has in the box."""
        return form_ends(form, self.sides)
