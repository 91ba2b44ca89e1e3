"""The search's own rules: by them it ends, and soon; what it finds is checked with the prices."""

import random
import unittest
from fractions import Fraction

from bendproof.tableau import (ROUGH_BITS, Tableau, best_step, climb, least_quotient, likely_heads, mend, rough,
                               seat_variables, set_guide)


def cube_lines(many):
    """The lines of each variable's not being above 2, nor below -1."""
    lines = []
    for k in range(many):
        for sign, bound in ((1, 2), (-1, 1)):
            lines.append([sign if j == k else 0 for j in range(many)] + [bound])
    return lines


def some_lines(chance, many, count, great=5):
    return [[chance.randint(-great, great) for _ in range(many + 1)] for _ in range(count)]


class Rules(unittest.TestCase):
    def test_least_quotient(self):
        self.assertIsNone(least_quotient([], [], []))
        self.assertIsNone(least_quotient([1, 2, 3], [0, -1, 0], [0, 1, 2]))
        self.assertEqual(least_quotient([3, 1, 5], [2, 1, 4], [0, 1, 2]), 1)
        self.assertEqual(least_quotient([3, 5, 1], [2, 4, 1], [0, 1, 2]), 2)
        self.assertEqual(least_quotient([-3, 1, -9], [1, 1, -1], [0, 1, 2]), 0)

    def test_least_quotients_that_are_alike_go_by_the_least_name(self):
        for names in ([4, 2, 9], [2, 4, 9], [9, 4, 2]):
            self.assertEqual(least_quotient([0, 0, 0], [1, 7, 3], names), names.index(2))
            self.assertEqual(least_quotient([1, 7, 3], [2, 14, 6], names), names.index(2))

    def test_the_step_that_gains_most(self):
        for steps in ([(0, 0, 3, 2, 5), (1, 1, 7, 4, 9), (2, 2, 1, 1, 1)], [(1, 1, 7, 4, 9), (2, 2, 1, 1, 1)],
                      [(2, 2, 1, 1, 1), (0, 0, 0, 1, 0), (1, 1, 7, 4, 9)], [(1, 1, 7, 4, 9)]):
            self.assertEqual(best_step(steps), (1, 1, 7, 4, 9))

    def test_steps_that_gain_nothing_go_by_the_least_name(self):
        steps = [(0, 0, 0, 3, 5), (1, 1, 0, 1, 2), (2, 2, 0, 7, 8)]
        for turn in range(3):
            self.assertEqual(best_step(steps[turn:] + steps[:turn])[4], 2)
        self.assertEqual(best_step(steps + [(3, 3, 1, 1000, 9)])[4], 9)

    def test_a_guide_that_no_head_raises(self):
        for goal in ([0, 3, 7], [0, 0, -7], [-1, 3, 0], [3, -1, 0], [-1, -1, 2], [0, -2, 0]):
            tableau = Tableau([[1, 2, 3]], goal)
            set_guide(tableau)
            self.assertGreaterEqual(min(tableau.guide[:-1]), 0)
            self.assertEqual(tableau.guide == goal, min(goal[:-1]) >= 0)

    def test_rough_numbers(self):
        short = [2 ** ROUGH_BITS - 1, -2 ** ROUGH_BITS + 1, 0]
        self.assertEqual(rough(short), short)
        self.assertIsNot(rough(short), short)
        self.assertEqual(rough([2 ** 200 + 1, 2 ** 190, -2 ** 199, 5]),
                         [2 ** (ROUGH_BITS - 1), 2 ** (ROUGH_BITS - 11), -2 ** (ROUGH_BITS - 2), 0])


class Search(unittest.TestCase):
    def assert_same_meaning(self, tableau, lines, goal):
        """Each line still says what the lines at the beginning say, whatever the variables are."""
        chance = random.Random(1)
        many = len(goal) - 1
        for _ in range(3):
            point = [Fraction(chance.randint(-9, 9), chance.randint(1, 4)) for _ in range(many)]
            named = [line[-1] - sum(a * b for a, b in zip(line, point)) for line in lines] + point
            heads = [named[head] for head in tableau.heads]
            for line, meant in zip(tableau.lines + [tableau.goal],
                                   [named[name] for name in tableau.names] + [goal[-1] - sum(
                                       a * b for a, b in zip(goal, point))]):
                self.assertEqual(Fraction(line[-1]) - sum(a * b for a, b in zip(line, heads)), meant * tableau.bottom)

    def test_exchanges_change_no_meaning(self):
        chance = random.Random(2)
        for _ in range(40):
            lines = some_lines(chance, 4, 6)
            goal = some_lines(chance, 4, 1)[0]
            tableau = Tableau([list(line) for line in lines], list(goal))
            for _ in range(12):
                at, column = chance.randrange(6), chance.randrange(4)
                if tableau.lines[at][column] != 0:
                    tableau.exchange(at, column)
                    self.assertGreater(tableau.bottom, 0)
                    self.assert_same_meaning(tableau, lines, goal)

    def test_in_a_cube_variables_are_seated_well_at_once(self):
        chance = random.Random(3)
        for many in range(1, 8):
            goal = [chance.choice((-3, -1, 1, 2)) for _ in range(many)] + [0]
            tableau = Tableau(cube_lines(many), goal)
            seat_variables(tableau, [])
            self.assertGreaterEqual(min(tableau.goal[:-1]), 0)
            self.assertEqual([mend(tableau), climb(tableau)], [None, None])
            self.assertEqual(tableau.goal[-1], sum(2 * -a if a < 0 else a for a in goal))

    def test_wanted_heads_are_seated(self):
        tableau = Tableau(cube_lines(3), [1, -1, 0, 0])
        seat_variables(tableau, [0, 3, 4])
        self.assertEqual(sorted(tableau.heads), [0, 3, 4])

    def test_likely_heads_of_short_numbers_are_not_searched(self):
        self.assertEqual(likely_heads(cube_lines(3), [1, -1, 0, 0]), [])

    def test_likely_heads_of_long_numbers_are_the_last_ones(self):
        chance = random.Random(4)
        for great in (10 ** 30, 10 ** 60):
            for _ in range(5):
                lines = [line[:-1] + [abs(line[-1])] for line in some_lines(chance, 5, 14, great)]
                goal = some_lines(chance, 5, 1, great)[0]
                before = [list(line) for line in lines]
                wanted = likely_heads(lines, goal)
                self.assertEqual(lines, before)
                tableau = Tableau(lines, goal)
                seat_variables(tableau, wanted)
                self.assertEqual(sorted(tableau.heads), sorted(wanted))
                self.assertEqual([mend(tableau), climb(tableau)], [None, None])
                self.assertEqual(sorted(tableau.heads), sorted(wanted))


if __name__ == "__main__":
    unittest.main()
