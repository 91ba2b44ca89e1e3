"""Nets held against one another: alike in a box, or unlike at some of its points."""

from bendproof.errors import NoNet, Unlike
from bendproof.judging import judged
from bendproof.nets import Net
from bendproof.ratios import MINUS_ONE, NOUGHT, ONE


def moved_place(place, many, by):
    """A place so many higher, where it is none of the ins."""
    return place if place < many else place + by


def moved_unit(unit, many, by):
    """A unit with its places so many higher."""
    if unit[0] == "bend":
        return ("bend", moved_place(unit[1], many, by))
    return ("sum", unit[1], [(moved_place(place, many, by), share) for place, share in unit[2]])


def joined(net, other):
    """One net of two with as many ins, or NoNet where it would be none."""
    one = net.told()
    two = other.told()
    many = one[0]
    if two[0] != many:
        raise NoNet("joined nets have as many ins")
    by = len(one[1])
    units = one[1] + [moved_unit(unit, many, by) for unit in two[1]]
    return Net(many, units, one[2] + [moved_place(place, many, by) for place in two[2]])


def not_beyond(place, other):
    """The saying that a place less another is not above 0."""
    return ([(place, ONE), (other, MINUS_ONE)], NOUGHT)


def alike(net, other, box):
    """Two nets are alike in a box, with two trees for each out, or unlike, with the first such out and a point."""
    one = net.told()
    two = other.told()
    if one[0] != two[0] or len(one[2]) != len(two[2]):
        raise Unlike("nets held against one another have as many ins and as many outs")
    both = joined(net, other)
    outs = both.told()[2]
    half = len(one[2])
    trees = []
    for k, places in enumerate(zip(outs[:half], outs[half:])):
        under = judged(both, box, not_beyond(places[0], places[1]))
        if under[0] == "false":
            return ("unlike", k, under[1])
        above = judged(both, box, not_beyond(places[1], places[0]))
        if above[0] == "false":
            return ("unlike", k, above[1])
        trees.append((under[1], above[1]))
    return ("alike", trees)
