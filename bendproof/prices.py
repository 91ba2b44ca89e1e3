"""Prices: rows mixed to one, and the greatest sum under rows with the prices that show it."""

from bendproof.quests import begun
from bendproof.ratios import over, over_one_bottom, ratio


def mixed(rows, prices, many):
    """The row over so many variables that rows come to, each times its price."""
    lines = [over_one_bottom(shares + [bound]) for shares, bound in rows]
    # Brought over one bottom first, each share is made a ratio once, not once for each row.
    weights = over_one_bottom([over(price, (line[1], 1)) for price, line in zip(prices, lines)])
    totals = [0] * (many + 1)
    for weight, line in zip(weights[0], lines):
        if weight != 0:
            totals = [total + weight * number for total, number in zip(totals, line[0])]
    told = [ratio(total, weights[1]) for total in totals]
    return (told[:many], told[many])


def highest(rows, goal):
    """The greatest sum of the goal's ratios times those of a point that keeps all rows, or why there is none."""
    return begun(rows, goal).ended()
