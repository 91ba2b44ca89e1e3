import itertools
import math
import re
import unittest
from enum import IntEnum
from fractions import Fraction

from bendproof.errors import NoRatio, NoText
from bendproof.ratios import less, minus, over, plus, ratio, read, shown, times
from helping import assert_refused, long_number, pair, strange_things

SMALL = range(-12, 13)
FEW = [(0, 1), (1, 1), (-1, 1), (1, 2), (-1, 2), (3, 2), (2, 3), (-2, 3), (5, 6), (-7, 6), (4, 1), (-9, 10), (1, 6)]


class Three(IntEnum):
    THREE = 3


def is_written(text):
    found = re.fullmatch("(0|-?[1-9][0-9]*)(/([1-9][0-9]*))?", text)
    if found is None:
        return False
    return found[2] is None or (found[3] != "1" and math.gcd(int(found[1]), int(found[3])) == 1)


class RatioTest(unittest.TestCase):
    def assert_told(self, told, fraction):
        """What is told is the ratio in lowest terms, of plain kinds."""
        self.assertEqual(told, pair(fraction))
        self.assertEqual([type(told), type(told[0]), type(told[1])], [tuple, int, int])


class Made(RatioTest):
    def test_lowest_terms_of_small_numbers_of_either_sign(self):
        for top in SMALL:
            for bottom in SMALL:
                if bottom != 0:
                    self.assert_told(ratio(top, bottom), Fraction(top, bottom))

    def test_by_hand(self):
        self.assertEqual(ratio(2, 4), (1, 2))
        self.assertEqual(ratio(-6, 4), (-3, 2))
        self.assertEqual(ratio(6, -4), (-3, 2))
        self.assertEqual(ratio(-6, -4), (3, 2))
        self.assertEqual(ratio(-6, -3), (2, 1))

    def test_nought_is_nought_over_one(self):
        for bottom in (1, -1, 7, -7, 10 ** 500):
            self.assertEqual(ratio(0, bottom), (0, 1))

    def test_many_figures(self):
        shared = 3 ** 700
        for top, bottom in ((2 ** 1000, 7 ** 300), (10 ** 999, 10 ** 998 + 1), (1, 10 ** 999), (10 ** 999, 1)):
            for sign, other in itertools.product((1, -1), repeat=2):
                told = ratio(sign * top * shared, other * bottom * shared)
                self.assert_told(told, Fraction(sign * top, other * bottom))

    def test_what_was_told_makes_itself_again(self):
        number, _ = long_number(600, 5)
        self.assertEqual(ratio(number, 10 ** 6000), pair(Fraction(number, 10 ** 6000)))
        self.assertEqual(ratio(number * 6, -number * 4), (-3, 2))

    def test_a_named_int_is_a_whole_number(self):
        self.assert_told(ratio(Three.THREE, 1), Fraction(3))
        self.assert_told(ratio(1, Three.THREE), Fraction(1, 3))
        self.assert_told(ratio(Three.THREE, Three.THREE), Fraction(1))

    def test_over_nought_is_refused(self):
        for top in (0, 1, -1, 10 ** 5000):
            assert_refused(self, NoRatio, ratio, top, 0)

    def test_things_of_other_kinds_are_refused(self):
        for thing in strange_things() + ["", "1", "a", "1/2"]:
            assert_refused(self, NoRatio, ratio, thing, 1)
            assert_refused(self, NoRatio, ratio, 1, thing)
            assert_refused(self, NoRatio, ratio, 10 ** 5000, thing)
            assert_refused(self, NoRatio, ratio, thing, 0)
            assert_refused(self, NoRatio, ratio, thing, thing)


class Reckoned(RatioTest):
    def assert_reckoned(self, one, other):
        first = Fraction(*one)
        second = Fraction(*other)
        self.assert_told(plus(one, other), first + second)
        self.assert_told(minus(one, other), first - second)
        self.assert_told(times(one, other), first * second)
        if second != 0:
            self.assert_told(over(one, other), first / second)
        self.assertIs(less(one, other), first < second)

    def test_two_ratios(self):
        for one in FEW:
            for other in FEW:
                self.assert_reckoned(one, other)

    def test_by_hand(self):
        self.assertEqual(plus((1, 6), (1, 3)), (1, 2))
        self.assertEqual(minus((1, 6), (2, 3)), (-1, 2))
        self.assertEqual(times((2, 3), (-3, 4)), (-1, 2))
        self.assertEqual(over((1, 2), (-3, 4)), (-2, 3))
        self.assertIs(less((-1, 2), (-1, 3)), True)
        self.assertIs(less((-1, 3), (-1, 2)), False)

    def test_one_ratio_twice(self):
        for one in FEW:
            self.assertEqual(minus(one, one), (0, 1))
            self.assertIs(less(one, one), False)
            if one != (0, 1):
                self.assertEqual(over(one, one), (1, 1))

    def test_over_nought_is_refused(self):
        for one in FEW:
            assert_refused(self, NoRatio, over, one, (0, 1))

    def test_nought_over_something(self):
        self.assertEqual(over((0, 1), (-5, 3)), (0, 1))

    def test_what_was_told_is_handed_in_again_whatever_its_size(self):
        great = (2, 3)
        for _ in range(14):
            great = times(great, great)
        self.assertGreater(great[0], 10 ** 4900)
        self.assert_told(great, Fraction(2, 3) ** 16384)
        small = over((-5, 7), great)
        for one, other in itertools.product((great, small, minus((0, 1), great), (0, 1), (1, 3)), repeat=2):
            self.assert_reckoned(one, other)
        assert_refused(self, NoRatio, over, great, (0, 1))


class Written(RatioTest):
    def test_by_hand(self):
        self.assertEqual(shown((0, 1)), "0")
        self.assertEqual(shown((7, 1)), "7")
        self.assertEqual(shown((-7, 1)), "-7")
        self.assertEqual(shown((1, 2)), "1/2")
        self.assertEqual(shown((-10, 3)), "-10/3")
        self.assertEqual(shown((100, 101)), "100/101")

    def test_what_is_shown_is_read_again(self):
        for top in range(-30, 31):
            for bottom in range(1, 31):
                one = ratio(top, bottom)
                self.assertEqual(shown(one), str(Fraction(top, bottom)))
                self.assertEqual(read(shown(one)), one)

    def test_noughts_within_long_numbers_are_written(self):
        for figures in range(55, 190):
            self.assertEqual(shown((10 ** figures, 1)), "1" + "0" * figures)
            self.assertEqual(shown((-10 ** figures - 1, 1)), "-1" + "0" * (figures - 1) + "1")
            self.assertEqual(shown((1, 10 ** figures - 1)), "1/" + "9" * figures)

    def test_several_thousand_figures_are_written(self):
        above, above_text = long_number(700, 1)
        below, below_text = long_number(900, 2)
        self.assertEqual(shown((above, 1)), above_text)
        self.assertEqual(shown((-above, 1)), "-" + above_text)
        self.assertEqual(shown((above, below)), above_text + "/" + below_text)
        self.assertEqual(shown((-1, below)), "-1/" + below_text)
        self.assertEqual(shown((10 ** 20000, 1)), "1" + "0" * 20000)

    def test_what_was_told_of_great_size_is_written(self):
        great = (10, 1)
        for _ in range(13):
            great = times(great, great)
        self.assertEqual(shown(great), "1" + "0" * 8192)
        self.assertEqual(shown(over((-3, 1), great)), "-3/1" + "0" * 8192)


class Read(RatioTest):
    def test_all_short_texts(self):
        for signs in range(5):
            for chosen in itertools.product("01249/-+ \n", repeat=signs):
                text = "".join(chosen)
                if is_written(text):
                    self.assert_told(read(text), Fraction(text))
                else:
                    assert_refused(self, NoText, read, text)

    def test_by_hand(self):
        self.assertEqual(read("0"), (0, 1))
        self.assertEqual(read("-12"), (-12, 1))
        self.assertEqual(read("3/4"), (3, 4))
        self.assertEqual(read("-120/77"), (-120, 77))

    def test_texts_that_are_none(self):
        for text in ("2/4", "3/1", "-3/1", "0/1", "0/5", "-0", "-0/3", "+1", "1/+2", "1/-2", "-1/-2", "--1", "01", "-01",
                     "00", "1/02", "1/0", "0/0", "", "-", "/", "1/", "/2", "-/2", "1//2", "1/2/3", "1/2/", "6/3",
                     "12/18", "1_0", "1,0", "1.0", "1e3", "0x1", "one", "nan", "1/2a", "a1", "1a", "1-", "1-2"):
            assert_refused(self, NoText, read, text)

    def test_blanks_line_ends_and_other_signs_anywhere(self):
        for text in ("7", "-7", "5/8", "-35/8"):
            for sign in (" ", "\n", "\r", "\t", "\v", "\f", "\0", "\u00a0", "\u2028", "\u0660", "\u0661", "\u00b2",
                         "\uff11", "\u2212", "\u2044", "\u00bd", "\u200b", "\ud800", "_", "+", ".", "'", "\\"):
                for place in range(len(text) + 1):
                    assert_refused(self, NoText, read, text[:place] + sign + text[place:])

    def test_figures_of_other_scripts(self):
        for text in ("\u0661", "\uff11\uff12", "-\u0967", "1/\u0662", "\u00b2", "\u2460", "\U0001d7d9"):
            assert_refused(self, NoText, read, text)

    def test_just_sixty_figures_are_read(self):
        nines = 10 ** 60 - 1
        self.assertEqual(read("9" * 60), (nines, 1))
        self.assertEqual(read("-" + "9" * 60), (-nines, 1))
        self.assertEqual(read("1" + "0" * 59), (10 ** 59, 1))
        self.assertEqual(read("1/" + "9" * 60), (1, nines))
        self.assertEqual(read("-" + "9" * 59 + "8/" + "9" * 60), (1 - nines, nines))
        self.assertEqual(read("9" * 60 + "/1" + "0" * 59), (nines, 10 ** 59))

    def test_more_than_sixty_figures_are_refused(self):
        for many in (61, 62, 100, 4300, 4301, 5000, 20000):
            for text in ("9" * many, "-" + "9" * many, "1/" + "9" * many, "9" * many + "/2", "-" + "9" * many + "/2",
                         "2/" + "9" * many, "9" * many + "/1" + "0" * (many - 1), "1" + "0" * (many - 1)):
                assert_refused(self, NoText, read, text)

    def test_noughts_ahead_do_not_hide_behind_many_figures(self):
        for text in ("0" * 60, "0" * 59 + "1", "-0" + "1" * 59, "1/0" + "7" * 59, "0" * 61):
            assert_refused(self, NoText, read, text)

    def test_not_in_lowest_terms_with_many_figures(self):
        for by in (2, 3, 10 ** 20 + 39):
            assert_refused(self, NoText, read, str(by * 10 ** 30) + "/" + str(by * (10 ** 30 + 1)))

    def test_things_that_are_no_texts(self):
        for thing in strange_things() + [0, 1, -1, 10 ** 5000, ["1"], ("1",), {"1": "1"}, bytearray(b"1")]:
            assert_refused(self, NoText, read, thing)

    def test_what_was_shown_beyond_sixty_figures_is_refused(self):
        number, _ = long_number(600, 9)
        assert_refused(self, NoText, read, shown((number, 1)))
        assert_refused(self, NoText, read, shown((1, number)))


if __name__ == "__main__":
    unittest.main()
