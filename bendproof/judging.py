"""Judging: a saying is shown by a tree of cases, or refuted by ins; so is the greatest value of terms."""

from bendproof.bounds import spans
from bendproof.cases import bent_places, forms_in, rows_by, terms_form, variable_count
from bendproof.forms import value
from bendproof.nets import terms_value
from bendproof.papers import all_open, with_bend
from bendproof.prices import highest
from bendproof.ratios import NOUGHT, bent, less, minus, plus, times


class Search:
    """How great terms become in a box: a limit, and the point, None at first, that was found to go beyond it.

    Where the search is to find the greatest value, the limit rises to what the terms come to at each such point;
    else the first one ends it.
    """

    def __init__(self, net, box, terms, limit, rises):
        self.net = net
        self.terms = terms
        self.widths = spans(net, box)
        self.limit = limit
        self.rises = rises
        self.point = None

    def weigh(self, point):
        """Keeps a point of the box at which the terms go beyond the limit."""
        worth = terms_value(NOUGHT, self.terms, self.net.walked(point))
        if less(self.limit, worth):
            self.limit = worth
            self.point = point

    def is_over(self):
        """True where a point was found and nothing else is sought."""
        return self.point is not None and not self.rises


def cap_prices(case, prices, many):
    """For each bend the price of the last of its rows, behind those of so many ins."""
    found = []
    at = 2 * many
    for state in case:
        at = at + (3 if state == "open" else 1)
        found.append(prices[at - 1])
    return found


def bends_amiss(net, forms, point):
    """The bends that at a point of all variables are not what they would tell of the places that they bend."""
    found = []
    for k, places in enumerate(zip(net.bends(), bent_places(net))):
        if value(forms[places[0]], point) != bent(value(forms[places[1]], point)):
            found.append(k)
    return found


def bend_to_split(search, amiss, caps):
    """Of the bends that are amiss the one that is left most room, as the prices of their last rows count it."""
    places = bent_places(search.net)
    best = amiss[0]
    most = NOUGHT
    for k in amiss:
        span = search.widths[places[k]]
        room = times(caps[k], minus(NOUGHT, times(span[0], span[1])))
        if less(most, room):
            best = k
            most = room
    return best


def grown(search, case):
    """A tree that shows the limit in a case, which may rise meanwhile; None where the search is over."""
    many = search.net.told()[0]
    forms = forms_in(search.net, case)
    form = terms_form(NOUGHT, search.terms, forms, variable_count(many, case))
    found = highest(rows_by(search.net, case, forms, search.widths), form[1:])
    if found[0] == "empty":
        return ("leaf", found[1])
    search.weigh(found[2][:many])
    if search.is_over():
        return None
    if not less(search.limit, plus(found[1], form[0])):
        return ("leaf", found[3])
    # Some bend is amiss: else the terms would come to that much at the point, and the limit would be there.
    k = bend_to_split(search, bends_amiss(search.net, forms, found[2]), cap_prices(case, found[3], many))
    one = grown(search, with_bend(case, k, "on"))
    if search.is_over():
        return None
    return ("split", k, one, grown(search, with_bend(case, k, "off")))


def judged(net, box, saying):
    """A saying is true, with a tree that is right for it, or false, with a point of the box."""
    search = Search(net, box, saying[0], saying[1], False)
    tree = grown(search, all_open(net))
    if search.is_over():
        return ("false", search.point)
    return ("true", tree)


def greatest(net, box, terms):
    """The greatest value of terms in a box, a point at which they come to it, and a tree that is right for it."""
    corner = [side[0] for side in box.told()]
    search = Search(net, box, terms, terms_value(NOUGHT, terms, net.walked(corner)), True)
    search.point = corner
    tree = grown(search, all_open(net))
    return (search.limit, search.point, tree)
