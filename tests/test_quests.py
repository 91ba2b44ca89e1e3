"""Quests that branch: one row loses its room, another one is let go of, and the search goes on from where it was."""

import random
import unittest
from fractions import Fraction

from bendproof.boxes import Box
from bendproof.cases import form_of, rows_in
from bendproof.nets import Net
from bendproof.prices import highest
from bendproof.quests import begun
from bendproof.ratios import plus, times
from bendproof.tableau import Tableau
from helping import combined, fractions, layers, pairs, some_ratio

LESS = (-1, 1)


def cube_rows(many):
    """The rows of each variable's not being above 2, nor below -1."""
    rows = []
    for k in range(many):
        for sign, bound in ((1, 2), (-1, 1)):
            rows.append(([(sign if j == k else 0, 1) for j in range(many)], (bound, 1)))
    return rows


def some_rows(chance, many, count):
    return [([some_ratio(chance) for _ in range(many)], some_ratio(chance)) for _ in range(count)]


class Branches(unittest.TestCase):
    def assert_shown(self, told, rows, goal, pinned, freed):
        """The prices, with some of the pinned row of either sign, mix to what they must; the freed row has none."""
        prices = fractions(told[-1])
        self.assertGreaterEqual(min(prices), 0)
        self.assertEqual(prices[freed], 0)
        lines = [fractions(shares + [bound]) for shares, bound in rows]
        prices[pinned] = Fraction(0)
        total = combined(list(zip(prices, lines)), len(goal) + 1)
        if told[0] == "most":
            wanted = fractions(goal) + [Fraction(*told[1])]
            missing = [a - b for a, b in zip(wanted, total)]
            at = [k for k, part in enumerate(lines[pinned][:-1]) if part != 0][0]
            by = missing[at] / lines[pinned][at]
            self.assertEqual(missing, [by * part for part in lines[pinned]])
        else:
            at = [k for k, part in enumerate(lines[pinned][:-1]) if part != 0][0]
            by = -total[at] / lines[pinned][at]
            total = [a + by * b for a, b in zip(total, lines[pinned])]
            self.assertEqual(total[:-1], [0] * len(goal))
            self.assertLess(total[-1], 0)

    def test_as_a_search_from_the_beginning(self):
        chance = random.Random(89)
        words = []
        for _ in range(150):
            many = chance.randint(1, 4)
            rows = cube_rows(many) + [row for row in some_rows(chance, many, chance.randint(1, 4)) if any(fractions(row[0]))]
            goal = pairs(chance.randint(-3, 3) for _ in range(many))
            # What follows from the others: one of them with room, or just as it is; now and then it is what holds at the corner.
            freed = chance.randrange(len(rows) + 1)
            like = chance.choice(rows)
            rows.insert(freed, (like[0], plus(like[1], chance.choice(((0, 1), (1, 2))))))
            quest = begun(rows, goal)
            first = quest.ended()
            if first[0] != "most":
                self.assertEqual(first[0], "empty")
                continue
            for pinned in range(len(rows)):
                point = fractions(first[2])
                room = Fraction(*rows[pinned][1]) - sum(a * b for a, b in zip(fractions(rows[pinned][0]), point))
                self.assertEqual(quest.has_room(pinned), room > 0)
                if room > 0 and pinned != freed and rows[pinned][0] != rows[freed][0]:
                    against = ([times(share, LESS) for share in rows[pinned][0]], times(rows[pinned][1], LESS))
                    expected = highest(rows[:freed] + rows[freed + 1:] + [against], goal)
                    told = quest.branched(pinned, freed).ended()
                    self.assertEqual([told[0]] + [told[1]] * (told[0] == "most"), [expected[0]] + [expected[1]] * (told[0] == "most"))
                    self.assert_shown(told, rows, goal, pinned, freed)
                    words.append(told[0])
            self.assertEqual(quest.ended(), first)
        self.assertGreater(words.count("most"), 100)
        self.assertGreater(words.count("empty"), 100)

    def test_down_the_cases_of_nets(self):
        chance = random.Random(97)
        seen = {"most": 0, "empty": 0}
        for many, widths in ((1, (4, 3)), (2, (3, 3)), (3, (4, 2)), (2, (2, 2, 2))):
            for _ in range(5):
                self.go_down(layers(chance, many, widths), [((-1, 1), (1, 1))] * many, chance, seen)
        self.assertGreater(seen["most"], 20)
        self.assertGreater(seen["empty"], 0)

    def go_down(self, parts, sides, chance, seen):
        """From case to case, by chance, the branched quest comes to what a new one comes to."""
        net, box = Net(*parts), Box(sides)
        terms = [(place, some_ratio(chance)) for place in net.bends()]
        case = ["open"] * len(net.bends())
        start = form_of(net, case, terms)[0]
        quest = begun(rows_in(net, box, case), form_of(net, case, terms)[1:])
        found = quest.ended()
        while found[0] == "most":
            firsts = [2 * parts[0] + 3 * k for k in range(len(case))]
            amiss = [k for k, first in enumerate(firsts) if quest.has_room(first) and quest.has_room(first + 1)]
            if amiss == []:
                return
            k = chance.choice(amiss)
            self.assertEqual(case[k], "open")
            state = chance.choice(("on", "off"))
            case[k] = state
            quest = quest.branched(firsts[k] + (state == "on"), firsts[k] + 2)
            found = quest.ended()
            form = form_of(net, case, terms)
            expected = highest(rows_in(net, box, case), form[1:])
            self.assertEqual(found[0], expected[0])
            seen[found[0]] += 1
            if found[0] == "most":
                self.assertEqual(plus(found[1], start), plus(expected[1], form[0]))

    def test_a_tableau_and_its_copy_go_their_own_ways(self):
        tableau = Tableau([[1, 0, 2], [0, 1, 2], [1, 1, 3]], [-1, -2, 0])
        before = ([list(line) for line in tableau.lines], list(tableau.goal), list(tableau.names), list(tableau.heads))
        other = tableau.copied()
        other.exchange(2, 0)
        other.exchange(1, 1)
        other.drop_head(0)
        other.drop_line(2)
        self.assertEqual((tableau.lines, tableau.goal, tableau.names, tableau.heads), before)
        self.assertEqual([tableau.bottom, tableau.rooms, len(other.lines), len(other.heads)], [1, 3, 2, 1])


if __name__ == "__main__":
    unittest.main()
