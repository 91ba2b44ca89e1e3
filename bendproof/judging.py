"""Judging: a saying is shown by a tree of cases, or refuted by ins; so is the greatest value of terms."""

from bendproof.bounds import spans
from bendproof.cases import bent_places, first_row, form_of, rows_in
from bendproof.nets import terms_value
from bendproof.papers import all_open, with_bend
from bendproof.quests import begun
from bendproof.ratios import NOUGHT, less, minus, plus, times


class Search:
    """How great terms become in a box: a limit, and the point, None at first, that was found to go beyond it.

    Where the search is to find the greatest value, the limit rises to what the terms come to at each such point;
    else the first one ends it. `form` is that of the terms where all bends are open.
    """

    def __init__(self, net, box, terms, limit, rises):
        self.net = net
        self.many = net.told()[0]
        self.terms = terms
        self.form = form_of(net, all_open(net), terms)
        self.widths = spans(net, box)
        self.limit = limit
        self.rises = rises
        self.point = None

    def weigh(self, point):
        """Keeps a point of the box at which the terms go beyond the limit."""
        worth = terms_value(NOUGHT, self.terms, self.net.walked(point))
        if less(self.limit, worth):
            self.limit = worth
            self.point = point

    def is_over(self):
        """True where a point was found and nothing else is sought."""
        return self.point is not None and not self.rises


def case_prices(case, prices, many):
    """The prices of a case's own rows, of those for all rows where all bends are open."""
    found = prices[:2 * many]
    for k, state in enumerate(case):
        first = first_row(many, k)
        if state == "on":
            found.append(prices[first])
        elif state == "off":
            found.append(prices[first + 1])
        else:
            found.extend(prices[first:first + 3])
    return found


def bends_amiss(search, quest):
    """The open bends whose variable at the corner is above 0 and above the form of the place that they bend."""
    firsts = [first_row(search.many, k) for k in range(len(search.net.bends()))]
    return [k for k, first in enumerate(firsts) if quest.has_room(first) and quest.has_room(first + 1)]


def bend_to_split(search, quest, prices):
    """Of the bends that are amiss the one that is left most room, as the price of its last row counts it."""
    amiss = bends_amiss(search, quest)
    places = bent_places(search.net)
    best = amiss[0]
    most = NOUGHT
    for k in amiss:
        span = search.widths[places[k]]
        room = times(prices[first_row(search.many, k) + 2], minus(NOUGHT, times(span[0], span[1])))
        if less(most, room):
            best = k
            most = room
    return best


def grown(search, quest, case):
    """A tree that shows the limit in a case, which may rise meanwhile; None where the search is over."""
    found = quest.ended()
    if found[0] == "empty":
        return ("leaf", case_prices(case, found[1], search.many))
    search.weigh(found[2][:search.many])
    if search.is_over():
        return None
    if not less(search.limit, plus(found[1], search.form[0])):
        return ("leaf", case_prices(case, found[3], search.many))
    # Some bend is amiss: else the terms would come to that much at the point, and the limit would be there.
    k = bend_to_split(search, quest, found[3])
    first = first_row(search.many, k)
    # Where the bend is on, its second row has no room, and where it is off, its first one. Its last row then says no
    # more than that the place which it bends keeps to its span; the other rows say so too.
    one = grown(search, quest.branched(first + 1, first + 2), with_bend(case, k, "on"))
    if search.is_over():
        return None
    return ("split", k, one, grown(search, quest.branched(first, first + 2), with_bend(case, k, "off")))


def whole_tree(search, box):
    """A tree that shows the limit, as far as it rises; None where the search is over before."""
    case = all_open(search.net)
    return grown(search, begun(rows_in(search.net, box, case), search.form[1:]), case)


def judged(net, box, saying):
    """A saying is true, with a tree that is right for it, or false, with a point of the box."""
    search = Search(net, box, saying[0], saying[1], False)
    tree = whole_tree(search, box)
    if search.is_over():
        return ("false", search.point)
    return ("true", tree)


def greatest(net, box, terms):
    """The greatest value of terms in a box, a point at which they come to it, and a tree that is right for it."""
    corner = [side[0] for side in box.told()]
    search = Search(net, box, terms, terms_value(NOUGHT, terms, net.walked(corner)), True)
    search.point = corner
    tree = whole_tree(search, box)
    return (search.limit, search.point, tree)
