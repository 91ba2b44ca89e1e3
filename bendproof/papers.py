"""Papers: trees of cases with prices at their ends, which show that a saying holds everywhere in a box."""

from bendproof.bounds import spans
from bendproof.cases import forms_in, rows_by, terms_form, variable_count
from bendproof.nets import terms_value
from bendproof.prices import mixed
from bendproof.ratios import NOUGHT, is_ratio, is_whole, less, plus


def holds(net, saying, point):
    """True where a saying holds at a point, else False."""
    return not less(saying[1], terms_value(NOUGHT, saying[0], net.walked(point)))


def all_open(net):
    """The case with all bends open."""
    return ["open" for place in net.bends()]


def with_bend(case, k, state):
    """A case with one bend in another state."""
    return case[:k] + [state] + case[k + 1:]


def are_prices(thing, count):
    """True where the thing, of any kind, is a list of so many ratios from 0 on."""
    if not isinstance(thing, list) or len(thing) != count:
        return False
    return all([is_ratio(price) and not less(price, NOUGHT) for price in thing])


def right_leaf(net, widths, saying, prices, case):
    """True where prices, of anything, show in a case that a saying holds, or that there is no such case."""
    forms = forms_in(net, case)
    rows = rows_by(net, case, forms, widths)
    if not are_prices(prices, len(rows)):
        return False
    count = variable_count(net.told()[0], case)
    form = terms_form(NOUGHT, saying[0], forms, count)
    row = mixed(rows, prices, count)
    if row[0] == form[1:] and not less(saying[1], plus(row[1], form[0])):
        return True
    return row[0] == [NOUGHT] * count and less(row[1], NOUGHT)


def right_split(net, widths, saying, tree, case):
    """True where a split, of anything behind its word, is right for a saying in a case."""
    k = tree[1]
    if not is_whole(k) or k < 0 or k >= len(case) or case[k] != "open":
        return False
    if not right_in(net, widths, saying, tree[2], with_bend(case, k, "on")):
        return False
    return right_in(net, widths, saying, tree[3], with_bend(case, k, "off"))


def right_in(net, widths, saying, tree, case):
    """True where a tree, of anything, is right for a saying in a case, by the spans that the places have."""
    if not isinstance(tree, tuple) or len(tree) == 0 or not isinstance(tree[0], str):
        return False
    if tree[0] == "leaf" and len(tree) == 2:
        return right_leaf(net, widths, saying, tree[1], case)
    if tree[0] == "split" and len(tree) == 4:
        return right_split(net, widths, saying, tree, case)
    return False


def right_tree(net, box, saying, tree):
    """True where a tree, of anything, is right for a saying in a net and a box, else False."""
    return right_in(net, spans(net, box), saying, tree, all_open(net))
