"""Quests: the greatest sum under rows is sought in a tableau, and told with prices that show it."""

from bendproof.ratios import MINUS_ONE, NOUGHT, ONE, common, over, over_one_bottom, ratio, times
from bendproof.tableau import Tableau, climb, let_go, likely_heads, mend, pin, seat_variables


def whole_line(several):
    """Ratios as small whole numbers, a list, and the ratio above 0 that these are times as great."""
    tops = over_one_bottom(several)
    by = 0
    for top in tops[0]:
        by = common(abs(top), by)
    if by == 0:
        return (tops[0], (tops[1], 1))
    return ([top // by for top in tops[0]], ratio(tops[1], by))


class Quest:
    """A tableau of rows and a goal over so many variables.

    `scales` has for each row, and `aim` for the goal, the ratio that the tableau's numbers were made times as great.
    """

    def __init__(self, tableau, many, scales, aim):
        self.tableau = tableau
        self.many = many
        self.scales = scales
        self.aim = aim

    def corner(self):
        """The point at the tableau's corner."""
        point = [NOUGHT] * self.many
        for name, line in zip(self.tableau.names, self.tableau.lines):
            if name >= self.tableau.rooms:
                point[name - self.tableau.rooms] = ratio(line[-1], self.tableau.bottom)
        return point

    def prices_by(self, numbers, aim):
        """The prices of the rows whose rooms are heads, by a number for each head, made aim times as great."""
        prices = [NOUGHT] * self.tableau.rooms
        for head, number in zip(self.tableau.heads, numbers):
            # A variable that is a head still has a nought here, since no room hangs on it.
            if number != 0:
                prices[head] = times(ratio(number, self.tableau.bottom), over(self.scales[head], aim))
        return prices

    def empty_prices(self, at):
        """The prices by which the line of a room that stays below 0 shows that no point keeps all rows."""
        name = self.tableau.names[at]
        prices = self.prices_by(self.tableau.lines[at][:-1], ONE)
        prices[name] = self.scales[name]
        return prices

    def endless_way(self, column):
        """The way that the point goes as a column's head raises the goal."""
        tableau = self.tableau
        sign = 1 if tableau.goal[column] < 0 else -1
        way = [NOUGHT] * self.many
        for name, line in zip(tableau.names, tableau.lines):
            if name >= tableau.rooms:
                way[name - tableau.rooms] = ratio(-line[column] * sign, tableau.bottom)
        if tableau.heads[column] >= tableau.rooms:
            way[tableau.heads[column] - tableau.rooms] = (sign, 1)
        return way

    def ended(self):
        """Goes on to the end, and tells the greatest sum, or why there is none."""
        broken = mend(self.tableau)
        if broken is not None:
            return ("empty", self.empty_prices(broken))
        column = climb(self.tableau)
        if column is not None:
            return ("endless", self.corner(), self.endless_way(column))
        worth = over(ratio(self.tableau.goal[-1], self.tableau.bottom), self.aim)
        return ("most", worth, self.corner(), self.prices_by(self.tableau.goal[:-1], self.aim))

    def has_room(self, name):
        """True where the room of the row with this number is above 0 at the corner."""
        tableau = self.tableau
        return name in tableau.names and tableau.lines[tableau.names.index(name)][-1] > 0

    def branched(self, pinned, freed):
        """Another quest, in which one row has no room any more, and another one, which follows then, is not asked.

        This one must have come to its end with the greatest sum, and the first row must have room there.
        """
        tableau = self.tableau.copied()
        pin(tableau, pinned)
        # Mostly the row that is let go of is no head any more once the others are mended, which makes it easy.
        mend(tableau)
        let_go(tableau, freed)
        return Quest(tableau, self.many, self.scales, self.aim)


def begun(rows, goal):
    """A quest for the greatest sum of the goal's ratios times those of a point that keeps all rows."""
    lines = [whole_line(shares + [bound]) for shares, bound in rows]
    aim = whole_line([times(one, MINUS_ONE) for one in goal] + [NOUGHT])
    tableau = Tableau([line[0] for line in lines], aim[0])
    seat_variables(tableau, likely_heads(tableau.lines, tableau.goal))
    return Quest(tableau, len(goal), [line[1] for line in lines], aim[1])
