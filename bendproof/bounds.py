"""Bounds that each place of a net keeps to at all points of a box: spans, slants, and the better of both."""

from bendproof.forms import added_times, even_form, lone_form, scaled
from bendproof.ratios import NOUGHT, bent, less, minus, over, plus, times


def turned(pair, share):
    """The two of a pair, exchanged where they are taken a share below 0 times."""
    return (pair[1], pair[0]) if less(share, NOUGHT) else pair


def sum_span(constant, terms, found):
    """The span of a sum, the spans ahead of it being found."""
    low = constant
    high = constant
    for place, share in terms:
        ends = turned(found[place], share)
        low = plus(low, times(share, ends[0]))
        high = plus(high, times(share, ends[1]))
    return (low, high)


def bend_span(span):
    """The span of a bend of a place with this span."""
    return (bent(span[0]), bent(span[1]))


def spans(net, box):
    """For each place the least and the greatest value that it can have by those of the places it stands on."""
    found = box.told()
    for unit in net.told()[1]:
        if unit[0] == "sum":
            found.append(sum_span(unit[1], unit[2], found))
        else:
            found.append(bend_span(found[unit[1]]))
    return found


def sum_slants(constant, terms, found, many):
    """The slants of a sum, the slants ahead of it being found."""
    under = even_form(constant, many)
    above = even_form(constant, many)
    for place, share in terms:
        pair = turned(found[place], share)
        under = added_times(under, pair[0], share)
        above = added_times(above, pair[1], share)
    return (under, above)


def bend_slants(pair, box):
    """The slants of a bend of a place with this pair of slants."""
    under = pair[0]
    above = pair[1]
    many = len(under) - 1
    low = box.ends(under)[0]
    high = box.ends(above)[1]
    if not less(low, NOUGHT):
        return (list(under), list(above))
    if not less(NOUGHT, high):
        return (even_form(NOUGHT, many), even_form(NOUGHT, many))
    lifted = [minus(above[0], low)] + above[1:]
    kept = less(minus(NOUGHT, low), high)
    return (list(under) if kept else even_form(NOUGHT, many), scaled(lifted, over(high, minus(high, low))))


def slants(net, box):
    """For each place a form over the ins that it never goes below, and one that it never goes above."""
    told = net.told()
    many = told[0]
    found = [(lone_form(place, many), lone_form(place, many)) for place in range(many)]
    for unit in told[1]:
        if unit[0] == "sum":
            found.append(sum_slants(unit[1], unit[2], found, many))
        else:
            found.append(bend_slants(found[unit[1]], box))
    return found


def better(span, pair, box):
    """The greater low and the lesser high of a span and of a pair of slants."""
    low = box.ends(pair[0])[0]
    high = box.ends(pair[1])[1]
    return (low if less(span[0], low) else span[0], high if less(high, span[1]) else span[1])


def bounds(net, box):
    """For each place the least and the greatest value that its span and its slants leave it."""
    return [better(span, pair, box) for span, pair in zip(spans(net, box), slants(net, box))]
