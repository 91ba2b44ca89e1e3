import copy
import unittest
from fractions import Fraction

from bendproof.forms import added, scaled, value
from bendproof.ratios import minus, over, ratio, times
from helping import fractions, pairs

FORMS = {
    0: [[(0, 1)], [(1, 2)], [(-7, 3)]],
    1: [[(0, 1), (0, 1)], [(1, 2), (-1, 3)], [(-1, 2), (5, 6)], [(3, 1), (1, 1)]],
    3: [[(0, 1), (0, 1), (0, 1), (0, 1)], [(1, 6), (1, 3), (-2, 1), (0, 1)], [(-5, 1), (2, 3), (2, 1), (7, 10)]],
}
BYS = [(0, 1), (1, 1), (-1, 1), (3, 2), (-2, 3), (6, 1)]


def points(many):
    return [[(0, 1)] * many, [(1, 1)] * many, [(-3, 2)] * many, [ratio(k + 1, 2 - 5 * k) for k in range(many)]]


class FormTest(unittest.TestCase):
    def assert_form(self, told, expected):
        """What is told is a list of ratios in lowest terms, of plain kinds."""
        self.assertEqual(told, expected)
        self.assertIs(type(told), list)
        for one in told:
            self.assertEqual([type(one), type(one[0]), type(one[1])], [tuple, int, int])


class Added(FormTest):
    def test_forms_over_none_one_and_several(self):
        for forms in FORMS.values():
            for one in forms:
                for other in forms:
                    expected = pairs([a + b for a, b in zip(fractions(one), fractions(other))])
                    self.assert_form(added(one, other), expected)

    def test_by_hand(self):
        self.assertEqual(added([(1, 6)], [(1, 3)]), [(1, 2)])
        self.assertEqual(added([(1, 2), (1, 3), (-1, 1)], [(1, 2), (1, 6), (1, 1)]), [(1, 1), (1, 2), (0, 1)])

    def test_lists_are_new_and_those_handed_in_as_before(self):
        for forms in FORMS.values():
            nought = forms[0]
            for one in forms:
                before = copy.deepcopy([nought, one])
                for told in (added(nought, one), added(one, nought), added(one, one)):
                    self.assertIsNot(told, one)
                    self.assertIsNot(told, nought)
                    told[0] = (99, 1)
                    told.append((98, 1))
                    self.assertEqual([nought, one], before)
                self.assertEqual(added(nought, one), one)

    def test_what_is_done_to_lists_handed_in_changes_nothing_told(self):
        one = [(1, 2), (1, 3)]
        told = added(one, [(0, 1), (0, 1)])
        one[0] = (9, 1)
        one.append((9, 1))
        self.assertEqual(told, [(1, 2), (1, 3)])


class Scaled(FormTest):
    def test_forms_over_none_one_and_several(self):
        for forms in FORMS.values():
            for form in forms:
                for by in BYS:
                    self.assert_form(scaled(form, by), pairs([a * Fraction(*by) for a in fractions(form)]))

    def test_by_hand(self):
        self.assertEqual(scaled([(1, 2)], (4, 1)), [(2, 1)])
        self.assertEqual(scaled([(1, 2), (0, 1), (-3, 4)], (-2, 3)), [(-1, 3), (0, 1), (1, 2)])
        self.assertEqual(scaled([(1, 2), (-3, 4)], (0, 1)), [(0, 1), (0, 1)])

    def test_lists_are_new_and_those_handed_in_as_before(self):
        for forms in FORMS.values():
            for form in forms:
                for by in BYS:
                    before = list(form)
                    told = scaled(form, by)
                    self.assertIsNot(told, form)
                    told[0] = (99, 1)
                    told.append((98, 1))
                    self.assertEqual(form, before)
                    self.assertNotEqual(scaled(form, by), told)

    def test_what_is_done_to_lists_handed_in_changes_nothing_told(self):
        form = [(1, 2), (1, 3)]
        told = scaled(form, (1, 1))
        form[1] = (9, 1)
        form.append((9, 1))
        self.assertEqual(told, [(1, 2), (1, 3)])


class Value(FormTest):
    def test_forms_over_none_one_and_several(self):
        for many, forms in FORMS.items():
            for form in forms:
                for point in points(many):
                    parts = fractions(form)
                    expected = parts[0] + sum([a * b for a, b in zip(parts[1:], fractions(point))])
                    self.assert_form([value(form, point)], pairs([expected]))

    def test_by_hand(self):
        self.assertEqual(value([(-7, 3)], []), (-7, 3))
        self.assertEqual(value([(1, 2), (1, 3)], [(3, 2)]), (1, 1))
        self.assertEqual(value([(1, 1), (2, 1), (-1, 2)], [(1, 4), (3, 1)]), (0, 1))

    def test_lists_handed_in_are_as_before(self):
        for many, forms in FORMS.items():
            for form in forms:
                for point in points(many):
                    before = copy.deepcopy([form, point])
                    first = value(form, point)
                    self.assertEqual([form, point], before)
                    self.assertEqual(value(form, point), first)


class Great(FormTest):
    def test_forms_that_were_told_are_handed_in_again_whatever_their_size(self):
        great = (7, 3)
        for _ in range(13):
            great = times(great, great)
        form = scaled([(1, 2), (-3, 5), (0, 1)], great)
        self.assertGreater(form[0][0], 10 ** 5000)
        self.assertEqual(scaled(form, over((1, 1), great)), [(1, 2), (-3, 5), (0, 1)])
        self.assertEqual(added(form, scaled(form, (-1, 1))), [(0, 1)] * 3)
        point = [over((5, 1), great), great]
        self.assertEqual(value(form, point), minus(times(great, (1, 2)), (3, 1)))


if __name__ == "__main__":
    unittest.main()
