"""Tableaux: a greatest sum under rows is searched from corner to corner, in whole numbers alone."""

ROUGH_BITS = 64


def swept(line, through, column, bottom):
    """A line in which the column's head is told by the line through, whose number there is above 0."""
    by = through[column]
    share = line[column]
    # Each number stays a whole one: both products together are a multiple of the bottom.
    if share == 0:
        return [number * by // bottom for number in line]
    return [(number * by - share * other) // bottom for number, other in zip(line, through)]


def least_quotient(tops, bottoms, names):
    """Where top over bottom is least, of those whose bottom is above 0, and then the name; None where none is."""
    best = None
    for k, bottom in enumerate(bottoms):
        if bottom > 0:
            if best is None:
                best = k
            else:
                ahead = tops[k] * bottoms[best] - tops[best] * bottom
                if ahead < 0 or (ahead == 0 and names[k] < names[best]):
                    best = k
    return best


class Tableau:
    """Rows' rooms and variables, each a name: some are heads, and for each other one a line tells it by the heads.

    A row's room is its bound less what its shares come to; it must not be below 0. The names below `rooms` are the
    rows', those from there on the variables'. A line holds a number for each head and a last one: what it tells is
    the last one, less each other times its head, over `bottom`. The goal and the guide are lines too, of no name.
    All heads being nought is a corner.
    """

    def __init__(self, lines, goal):
        self.rooms = len(lines)
        self.bottom = 1
        self.lines = lines
        self.names = list(range(self.rooms))
        self.heads = [self.rooms + k for k in range(len(goal) - 1)]
        self.goal = goal
        self.guide = list(goal)

    def exchange(self, at, column):
        """Makes the column's head a line, and the name of the line its head."""
        line = self.lines[at]
        sign = 1 if line[column] > 0 else -1
        through = [number * sign for number in line]
        self.lines = [self.without_head(other, through, column, sign) for other in self.lines]
        self.goal = self.without_head(self.goal, through, column, sign)
        self.guide = self.without_head(self.guide, through, column, sign)
        fresh = list(through)
        fresh[column] = self.bottom * sign
        self.lines[at] = fresh
        self.bottom = through[column]
        name = self.names[at]
        self.names[at] = self.heads[column]
        self.heads[column] = name

    def without_head(self, line, through, column, sign):
        """Another line, as it stands when the column's head is exchanged."""
        fresh = swept(line, through, column, self.bottom)
        fresh[column] = -line[column] * sign
        return fresh

    def copied(self):
        """A tableau at the same corner that goes its own way from here on."""
        other = Tableau(list(self.lines), self.goal)
        other.rooms = self.rooms
        other.bottom = self.bottom
        other.names = list(self.names)
        other.heads = list(self.heads)
        other.guide = self.guide
        return other

    def drop_head(self, column):
        """Leaves a column's head at nought for good."""
        self.lines = [line[:column] + line[column + 1:] for line in self.lines]
        self.goal = self.goal[:column] + self.goal[column + 1:]
        self.guide = self.guide[:column] + self.guide[column + 1:]
        self.heads = self.heads[:column] + self.heads[column + 1:]

    def drop_line(self, at):
        """Lets go of a room that a line tells."""
        self.lines = self.lines[:at] + self.lines[at + 1:]
        self.names = self.names[:at] + self.names[at + 1:]

    def room_lines(self):
        """The numbers of the lines that tell a row's room."""
        return [at for at, name in enumerate(self.names) if name < self.rooms]


def fitness(tableau, at, column, wanted):
    """How well a line's room would stand as the column's head: best a wanted one, then one that turns the goal well."""
    if tableau.names[at] in wanted:
        return 2
    return 1 if tableau.lines[at][column] * tableau.goal[column] < 0 else 0


def seat_variables(tableau, wanted):
    """Makes lines of all variables but those that no room hangs on any more, and rooms, wanted ones first, heads."""
    for column in range(len(tableau.heads) - 1, -1, -1):
        ats = [at for at in tableau.room_lines() if tableau.lines[at][column] != 0]
        if len(ats) > 0:
            tableau.exchange(max(ats, key=lambda at: fitness(tableau, at, column, wanted)), column)


def set_guide(tableau):
    """Makes the guide a line that no head can raise: the goal, or else one of which each head takes away."""
    if all([number >= 0 for number in tableau.goal[:-1]]):
        tableau.guide = list(tableau.goal)
    else:
        tableau.guide = [tableau.bottom for head in tableau.heads] + [0]


def best_step(steps):
    """Of steps (at, column, top, bottom, name) that with the greatest top over bottom, and then the least name.

    A step that gains nothing is only taken where none gains anything, and then by the least name: such a walk
    never comes to the same heads again (Bland's rule), so it ends.
    """
    best = steps[0]
    for step in steps:
        ahead = step[2] * best[3] - best[2] * step[3]
        if ahead > 0 or (ahead == 0 and step[4] < best[4]):
            best = step
    return best


def mending_steps(tableau):
    """The steps by which a room below 0 is made a head; one without a column where it can't be."""
    steps = []
    for at in tableau.room_lines():
        line = tableau.lines[at]
        if line[-1] < 0:
            falls = [-number for number in line[:-1]]
            column = least_quotient(tableau.guide, falls, tableau.heads)
            if column is None:
                return [(at, None, 0, 1, tableau.names[at])]
            steps.append((at, column, -line[-1] * tableau.guide[column], falls[column], tableau.names[at]))
    return steps


def go_on(tableau, steps_of):
    """Takes the best step again and again until there is none; tells one that can't be taken, or None."""
    steps = steps_of(tableau)
    while len(steps) > 0:
        step = best_step(steps)
        if step[0] is None or step[1] is None:
            return step
        tableau.exchange(step[0], step[1])
        steps = steps_of(tableau)
    return None


def mend(tableau):
    """Goes on until no room is below 0, or tells the line of one that no heads from 0 on can mend."""
    set_guide(tableau)
    last = go_on(tableau, mending_steps)
    return None if last is None else last[0]


def climbing_steps(tableau):
    """The steps that raise the goal and leave all rooms from 0 on; one without a line where it goes on for ever."""
    steps = []
    ats = tableau.room_lines()
    lasts = [tableau.lines[at][-1] for at in ats]
    names = [tableau.names[at] for at in ats]
    for column, head in enumerate(tableau.heads):
        number = tableau.goal[column]
        # No room hangs on a variable that is a head still, so it may go either way.
        if number < 0 or (number != 0 and head >= tableau.rooms):
            takes = [tableau.lines[at][column] for at in ats]
            k = least_quotient(lasts, takes, names)
            if k is None:
                return [(None, column, 0, 1, head)]
            steps.append((ats[k], column, -number * lasts[k], takes[k], head))
    return steps


def climb(tableau):
    """Goes on until no head raises the goal, or tells the column of one that raises it for ever."""
    last = go_on(tableau, climbing_steps)
    return None if last is None else last[1]


def rough(line):
    """A line's numbers without their last bits, as many for each, where one of them has many."""
    spare = max([number.bit_length() for number in line]) - ROUGH_BITS
    return [number >> spare for number in line] if spare > 0 else list(line)


def likely_heads(lines, goal):
    """The heads at the end of a search with rough numbers, none where these are the numbers themselves.

    Exchanges of long numbers are dear. Where a search begins at the heads that a rough one has found, it needs few.
    """
    rough_lines = [rough(line) for line in lines]
    rough_goal = rough(goal)
    if rough_lines == lines and rough_goal == goal:
        return []
    tableau = Tableau(rough_lines, rough_goal)
    seat_variables(tableau, [])
    if mend(tableau) is None:
        climb(tableau)
    return tableau.heads


def pin(tableau, name):
    """Makes a row's room nought for good, which is above 0 at the corner where the goal is greatest."""
    at = tableau.names.index(name)
    line = tableau.lines[at][:-1]
    column = least_quotient(tableau.goal, line, tableau.heads)
    if column is None:
        # No heads from 0 on bring it down to nought: whatever is done, another room is below 0 then.
        column = [k for k, number in enumerate(line) if number != 0][0]
    tableau.exchange(at, column)
    tableau.drop_head(column)


def let_go(tableau, name):
    """Takes away a row that each point keeps which keeps the others; by these no variable goes on for ever."""
    if name in tableau.heads:
        # So there is a room that falls as this one grows, and it becomes the head.
        column = tableau.heads.index(name)
        ats = tableau.room_lines()
        lasts = [tableau.lines[at][-1] for at in ats]
        takes = [tableau.lines[at][column] for at in ats]
        k = least_quotient(lasts, takes, [tableau.names[at] for at in ats])
        tableau.exchange(ats[k], column)
    tableau.drop_line(tableau.names.index(name))
