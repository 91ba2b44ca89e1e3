"""Prices: rows mixed to one, and the greatest sum under rows with the prices that show it."""

from bendproof.ratios import MINUS_ONE, NOUGHT, common, over, over_one_bottom, ratio, times
from bendproof.tableau import Tableau, climb, likely_heads, mend, seat_variables


def mixed(rows, prices, many):
    """The row over so many variables that rows come to, each times its price."""
    lines = [over_one_bottom(shares + [bound]) for shares, bound in rows]
    # Brought over one bottom first, each share is made a ratio once, not once for each row.
    weights = over_one_bottom([over(price, (line[1], 1)) for price, line in zip(prices, lines)])
    totals = [0] * (many + 1)
    for weight, line in zip(weights[0], lines):
        if weight != 0:
            totals = [total + weight * number for total, number in zip(totals, line[0])]
    told = [ratio(total, weights[1]) for total in totals]
    return (told[:many], told[many])


def whole_line(several):
    """Ratios as small whole numbers, a list, and the ratio above 0 that these are times as great."""
    tops = over_one_bottom(several)
    by = 0
    for top in tops[0]:
        by = common(abs(top), by)
    if by == 0:
        return (tops[0], (tops[1], 1))
    return ([top // by for top in tops[0]], ratio(tops[1], by))


def corner_point(tableau):
    """The point at the tableau's corner."""
    point = [NOUGHT] * len(tableau.heads)
    for name, line in zip(tableau.names, tableau.lines):
        if name >= tableau.rooms:
            point[name - tableau.rooms] = ratio(line[-1], tableau.bottom)
    return point


def prices_by(tableau, numbers, scales):
    """The prices of the rows whose rooms are heads, by a number for each head."""
    prices = [NOUGHT] * tableau.rooms
    for head, number in zip(tableau.heads, numbers):
        if head < tableau.rooms:
            prices[head] = times(ratio(number, tableau.bottom), scales[head])
    return prices


def empty_prices(tableau, at, scales):
    """The prices by which the line of a room that stays below 0 shows that no point keeps all rows."""
    line = tableau.lines[at]
    prices = prices_by(tableau, line[:-1], scales)
    prices[tableau.names[at]] = scales[tableau.names[at]]
    return prices


def endless_way(tableau, column):
    """The way that the point goes as a column's head raises the goal."""
    sign = 1 if tableau.goal[column] < 0 else -1
    way = [NOUGHT] * len(tableau.heads)
    for name, line in zip(tableau.names, tableau.lines):
        if name >= tableau.rooms:
            way[name - tableau.rooms] = ratio(-line[column] * sign, tableau.bottom)
    if tableau.heads[column] >= tableau.rooms:
        way[tableau.heads[column] - tableau.rooms] = (sign, 1)
    return way


def highest(rows, goal):
    """The greatest sum of the goal's ratios times those of a point that keeps all rows, or why there is none."""
    lines = [whole_line(shares + [bound]) for shares, bound in rows]
    scales = [line[1] for line in lines]
    aim = whole_line([times(one, MINUS_ONE) for one in goal] + [NOUGHT])
    tableau = Tableau([line[0] for line in lines], aim[0])
    seat_variables(tableau, likely_heads(tableau.lines, tableau.goal))
    broken = mend(tableau)
    if broken is not None:
        return ("empty", empty_prices(tableau, broken, scales))
    column = climb(tableau)
    point = corner_point(tableau)
    if column is not None:
        return ("endless", point, endless_way(tableau, column))
    worth = over(ratio(tableau.goal[-1], tableau.bottom), aim[1])
    prices = prices_by(tableau, tableau.goal[:-1], [over(scale, aim[1]) for scale in scales])
    return ("most", worth, point, prices)
