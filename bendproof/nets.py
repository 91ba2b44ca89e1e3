"""Nets: ins, and units that are sums or bends of places ahead of them."""

from bendproof.errors import NoNet
from bendproof.ratios import NOUGHT, bent, is_ratio, is_whole, less, plain, plus, times

MOST_INS = 6
MOST_UNITS = 80
MOST_BENDS = 20
MOST_OUTS = 12


def checked_place(place, end):
    """A place, of anything, that is below the end, or NoNet."""
    if not is_whole(place) or place < 0 or place >= end:
        raise NoNet("a place is a whole number, and ahead of where it is spoken of")
    return int(place)


def checked_term(term, end):
    """A copy of a sum's term, of anything, or NoNet."""
    if not isinstance(term, tuple) or len(term) != 2:
        raise NoNet("a term is a tuple of a place and a share")
    if not is_ratio(term[1]):
        raise NoNet("a share is a ratio")
    return (checked_place(term[0], end), plain(term[1]))


def checked_sum(constant, terms, end):
    """A copy of a sum, of anything, that stands at the place end, or NoNet."""
    if not is_ratio(constant):
        raise NoNet("a sum's constant is a ratio")
    if not isinstance(terms, list):
        raise NoNet("a sum's terms are a list")
    found = [checked_term(term, end) for term in terms]
    if len(set([place for place, share in found])) != len(found):
        raise NoNet("a place stands once in a sum")
    # Kept as a tuple, so that nobody shares a list with the net.
    return ("sum", plain(constant), tuple(found))


def checked_unit(unit, end):
    """A copy of a unit, of anything, that stands at the place end, or NoNet."""
    if not isinstance(unit, tuple) or len(unit) == 0 or not isinstance(unit[0], str):
        raise NoNet("a unit is a tuple with a word ahead")
    if unit[0] == "sum" and len(unit) == 3:
        return checked_sum(unit[1], unit[2], end)
    if unit[0] == "bend" and len(unit) == 2:
        return ("bend", checked_place(unit[1], end))
    raise NoNet("a unit is a sum with its constant and terms, or a bend with its place")


def checked_units(units, many):
    """Copies of the units, of anything, behind so many ins, or NoNet."""
    if not isinstance(units, list) or len(units) > MOST_UNITS:
        raise NoNet("units are a list of at most eighty")
    found = [checked_unit(unit, many + k) for k, unit in enumerate(units)]
    if len([unit for unit in found if unit[0] == "bend"]) > MOST_BENDS:
        raise NoNet("at most twenty units are bends")
    return found


def checked_outs(outs, end):
    """A copy of the outs, of anything, or NoNet."""
    if not isinstance(outs, list) or len(outs) < 1 or len(outs) > MOST_OUTS:
        raise NoNet("outs are a list of one to twelve")
    return [checked_place(place, end) for place in outs]


def told_unit(unit):
    """A unit with a list of terms that is the asker's own."""
    if unit[0] == "sum":
        return ("sum", unit[1], list(unit[2]))
    return unit


def terms_value(constant, terms, found):
    """What a constant and terms come to, their places' values being found."""
    total = constant
    for place, share in terms:
        total = plus(total, times(share, found[place]))
    return total


def value_of(unit, found):
    """The value of a unit, those of the places ahead of it being found."""
    if unit[0] == "bend":
        return bent(found[unit[1]])
    return terms_value(unit[1], unit[2], found)


class Net:
    """So many ins, units in their order, and the places that are outs."""

    def __init__(self, many, units, outs):
        if not is_whole(many) or many < 1 or many > MOST_INS:
            raise NoNet("a net has one to six ins")
        self.many = int(many)
        self.units = checked_units(units, self.many)
        self.outs = checked_outs(outs, self.many + len(self.units))

    def told(self):
        """How many ins, the units and the outs, of which the same net can be made."""
        return (self.many, [told_unit(unit) for unit in self.units], list(self.outs))

    def walked(self, point):
        """Each place's value at a point."""
        found = list(point)
        for unit in self.units:
            found.append(value_of(unit, found))
        return found

    def outs_at(self, point):
        """The outs' values at a point."""
        found = self.walked(point)
        return [found[place] for place in self.outs]

    def bends(self):
        """The bends' own places."""
        return [self.many + k for k, unit in enumerate(self.units) if unit[0] == "bend"]

    def case_at(self, point):
        """For each bend, whether it is on or off at a point."""
        found = self.walked(point)
        bent_places = [unit[1] for unit in self.units if unit[0] == "bend"]
        return ["on" if less(NOUGHT, found[place]) else "off" for place in bent_places]
