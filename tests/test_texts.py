import random
import unittest

from bendproof.boxes import Box
from bendproof.errors import NoNet, NoText
from bendproof.nets import Net
from bendproof.smaller import smaller
from bendproof.texts import read_net, shown_net
from helping import assert_refused, layers, long_number, some_nets, strange_things

NOUGHT = (0, 1)
ONE = (1, 1)
LONG = 10 ** 59 + 7
GOOD = "ins 2\nsum -1/2 0:2 1:-3/4\nbend 2\nsum 0\nouts 3 4 3"


class Shown(unittest.TestCase):
    def assert_shown(self, parts, text):
        told = shown_net(Net(*parts))
        self.assertIs(type(told), str)
        self.assertEqual(told, text)
        self.assertEqual(read_net(text).told(), parts)
        self.assertEqual(shown_net(read_net(text)), text)

    def test_by_hand(self):
        self.assert_shown((2, [("sum", (-1, 2), [(0, (2, 1)), (1, (-3, 4))]), ("bend", 2), ("sum", NOUGHT, [])], [3, 4, 3]), GOOD)

    def test_ins_alone(self):
        for many in range(1, 7):
            self.assert_shown((many, [], [many - 1]), f"ins {many}\nouts {many - 1}")

    def test_sums_without_terms_and_shares_of_nought(self):
        self.assert_shown((1, [("sum", (-7, 3), []), ("sum", NOUGHT, [(1, NOUGHT), (0, ONE)])], [2]),
                          "ins 1\nsum -7/3\nsum 0 1:0 0:1\nouts 2")

    def test_places_of_two_figures_and_outs_some_twice(self):
        units = [("bend", 0)] + [("sum", ONE, [(place, ONE)]) for place in range(1, 12)]
        text = "ins 1\nbend 0\n" + "\n".join(f"sum 1 {place}:1" for place in range(1, 12)) + "\nouts 12 12 0 10 12"
        self.assert_shown((1, units, [12, 12, 0, 10, 12]), text)

    def test_sixty_figures(self):
        self.assert_shown((1, [("sum", (-LONG, 3), [(0, (2, LONG))])], [1]), f"ins 1\nsum -{LONG}/3 0:2/{LONG}\nouts 1")

    def test_as_many_as_a_net_may_have(self):
        self.assert_shown((6, [("bend", 5)] * 20 + [("sum", ONE, [])] * 60, [85] * 12),
                          "ins 6\n" + "bend 5\n" * 20 + "sum 1\n" * 60 + "outs" + " 85" * 12)

    def test_some_by_chance(self):
        chance = random.Random(79)
        nets = [parts for parts, _ in some_nets()] + [layers(chance, 3, (4, 4))]
        nets += [smaller(Net(*parts), Box(sides)).told() for parts, sides in some_nets(20)]
        for parts in nets:
            net = Net(*parts)
            text = shown_net(net)
            self.assertEqual(net.told(), parts)
            self.assertEqual(read_net(text).told(), parts)
            self.assertEqual(shown_net(read_net(text)), text)
            rows = text.split("\n")
            self.assertEqual(len(rows), len(parts[1]) + 2)
            self.assertEqual([rows[0].split(" ")[0], rows[-1].split(" ")[0]], ["ins", "outs"])

    def test_numbers_of_many_figures_are_shown(self):
        number, written = long_number(600, 5)
        text = shown_net(Net(1, [("sum", (number, 1), [(0, (-1, number))])], [1]))
        self.assertEqual(text, f"ins 1\nsum {written} 0:-1/{written}\nouts 1")
        assert_refused(self, NoText, read_net, text)


class NoTexts(unittest.TestCase):
    def assert_no_text(self, thing):
        assert_refused(self, NoText, read_net, thing)

    def test_what_is_no_text(self):
        for thing in strange_things() + [0, 1, b"ins 1\nouts 0", ["ins 1", "outs 0"], ("ins 1\nouts 0",), Net(1, [], [0])]:
            self.assert_no_text(thing)

    def test_empty_texts_and_rows(self):
        for text in ("", " ", "\n", "\n\n", "\nins 1\nouts 0", "ins 1\n\nouts 0", "ins 1\nbend 0\n\nouts 0", "ins 1\n \nouts 0"):
            self.assert_no_text(text)

    def test_a_line_end_at_the_end(self):
        for text in (GOOD, "ins 1\nouts 0", "ins 1\nbend 0\nouts 1"):
            read_net(text)
            for end in ("\n", "\n\n", "\r", "\r\n", " \n", "\x0b", "\x0c", "\x85", "\u2028"):
                self.assert_no_text(text + end)
            self.assert_no_text(text.replace("\n", "\r\n"))
            self.assert_no_text(text.replace("\n", "\r"))
            self.assert_no_text(text.replace("\n", "\u2028"))
            self.assert_no_text(text.replace("\n", ";"))
            self.assert_no_text(text.replace("\n", " ; "))

    def test_a_blank_too_many(self):
        for at, sign in enumerate(GOOD):
            if sign in " \n":
                self.assert_no_text(GOOD[:at] + " " + GOOD[at:])
                self.assert_no_text(GOOD[:at + 1] + " " + GOOD[at + 1:])
                self.assert_no_text(GOOD[:at] + "\t" + GOOD[at + (sign == " "):])
                self.assert_no_text(GOOD[:at] + "\xa0" + GOOD[at + (sign == " "):])
        for text in (" " + GOOD, GOOD + " ", "ins 1\nouts ", "ins 1\nouts 0 ", "ins 1\nsum 1 \nouts 0", "ins 1\nbend 0 \nouts 0",
                     "ins 1 \nouts 0", "ins \nouts 0", "ins 1\nsum \nouts 0", "ins 1\nbend \nouts 0"):
            self.assert_no_text(text)

    def test_a_blank_too_few(self):
        # Between two outs a blank too few makes another number of both.
        for at, sign in enumerate(GOOD[:GOOD.index("outs") + 5]):
            if sign == " ":
                self.assert_no_text(GOOD[:at] + GOOD[at + 1:])

    def test_a_row_too_few_or_too_many_and_another_order(self):
        rows = GOOD.split("\n")
        wrong = [rows[1:], rows[:-1], rows[:1], rows[-1:], rows[1:-1], rows + rows[-1:], rows[:1] + rows, rows + rows[1:2],
                 rows[1:2] + rows, rows[::-1], rows[1:] + rows[:1], rows[-1:] + rows[:-1], rows + rows, rows[:1] * 2, rows[-1:] * 2,
                 [rows[0], rows[-1]] + rows[1:-1], [rows[1], rows[0]] + rows[2:], rows[:2] + rows[-1:] + rows[2:-1]]
        for some in wrong:
            self.assert_no_text("\n".join(some))

    def test_another_word(self):
        for old, news in (("ins", ("in", "Ins", "INS", "inss", "", "outs", "sum", "net")), ("sum", ("Sum", "sums", "add", "", "ins", "outs")),
                          ("bend", ("Bend", "bends", "relu", "", "outs", "sum -1/2 1")), ("outs", ("out", "Outs", "OUTS", "", "ins", "sum"))):
            for new in news:
                self.assert_no_text(GOOD.replace(old, new))

    def test_words_too_few_or_too_many(self):
        for text in ("ins\nouts 0", "ins 1 1\nouts 0", "ins 1\nsum\nouts 0", "ins 1\nbend\nouts 0", "ins 1\nbend 0 0\nouts 0",
                     "ins 1\nbend 0:1\nouts 0", "ins 1\nsum 1 0\nouts 0", "ins 1\nsum 0:1\nouts 0", "ins 1\nsum 1 1\nouts 0"):
            self.assert_no_text(text)

    def wrong_numbers(self):
        return ["", "00", "01", "-0", "+0", "+1", "-1", "1.0", "1_0", "0x1", "one", "1e0", str(LONG) + "0", "0" * 61, " ", "\u0661",
                "\uff11", "\xb2", "\u00bd", "\u0967", "1\u0661", "1,", "(1)", "1/1", "0/1", "3/1"]

    def test_no_whole_numbers(self):
        for number in self.wrong_numbers() + ["1/2"]:
            for text in (f"ins {number}\nouts 0", f"ins 1\nbend {number}\nouts 0", f"ins 1\nouts {number}", f"ins 1\nouts 0 {number}",
                         f"ins 1\nouts {number} 0", f"ins 2\nsum 1 {number}:1\nouts 0", f"ins 3\nsum 1 0:1 {number}:1\nouts 0"):
                self.assert_no_text(text)

    def test_no_ratios(self):
        wrong = [number for number in self.wrong_numbers() if number != "-1"]
        for number in wrong + ["2/4", "-2/4", "1/0", "0/2", "1/-2", "1/2/3", "/", "1/", "/2", "--1", "1 /2", f"1/{LONG}0", "1/02", "-", "1/+2"]:
            for text in (f"ins 1\nsum {number}\nouts 0", f"ins 1\nsum {number} 0:1\nouts 0", f"ins 1\nsum 1 0:{number}\nouts 0",
                         f"ins 2\nsum 1 0:1 1:{number}\nouts 0", f"ins 2\nsum 1 1:{number} 0:1\nouts 0"):
                self.assert_no_text(text)

    def test_a_term_without_a_colon_or_with_two(self):
        for term in ("0", "0:", ":1", ":", "0::1", "0:1:", ":0:1", "0:1:1", "0;1", "0,1", "0=1", "0 :1", "0: 1", "0\uff1a1"):
            for text in (f"ins 1\nsum 1 {term}\nouts 0", f"ins 2\nsum 1 1:1 {term}\nouts 0"):
                self.assert_no_text(text)

    def test_no_text_goes_ahead_of_no_net(self):
        for text in ("ins 0\nouts x", "ins 7\nbend 9\nsum 1 0:2/4\nouts 0", "ins 1\nbend 5\nouts 01", "ins 9\nouts 0 ", "ins 1\nsum 1 0:1 0:1\nouts 0\n",
                     "ins 1\nbend 1\n\nouts 0"):
            self.assert_no_text(text)
        assert_refused(self, NoNet, read_net, "ins 0\nouts")


class NoNets(unittest.TestCase):
    def assert_no_net(self, text):
        assert_refused(self, NoNet, read_net, text)

    def test_outs_without_places(self):
        self.assert_no_net("ins 1\nouts")
        self.assert_no_net("ins 2\nbend 0\nouts")

    def test_places_that_are_not_ahead(self):
        for text in ("ins 1\nouts 1", "ins 1\nbend 1\nouts 0", "ins 1\nbend 2\nbend 0\nouts 0", "ins 1\nsum 0 1:1\nouts 0",
                     "ins 2\nsum 0 0:1 2:1\nouts 0", f"ins 1\nbend {LONG}\nouts 0", f"ins 1\nouts {LONG}", f"ins 1\nsum 0 {LONG}:1\nouts 0"):
            self.assert_no_net(text)

    def test_a_place_twice_in_a_sum(self):
        self.assert_no_net("ins 1\nsum 0 0:1 0:1\nouts 0")
        self.assert_no_net("ins 2\nsum 0 0:1 1:1 0:-1\nouts 0")

    def test_too_many_and_too_few(self):
        self.assert_no_net("ins 0\nouts 0")
        self.assert_no_net("ins 7\nouts 0")
        self.assert_no_net(f"ins {LONG}\nouts 0")
        self.assert_no_net("ins 1\n" + "sum 0\n" * 81 + "outs 0")
        self.assert_no_net("ins 1\n" + "bend 0\n" * 21 + "outs 0")
        self.assert_no_net("ins 1\nouts" + " 0" * 13)
        read_net("ins 1\n" + "sum 0\n" * 80 + "outs 0")
        read_net("ins 1\n" + "bend 0\n" * 20 + "outs 0")
        read_net("ins 1\nouts" + " 0" * 12)


if __name__ == "__main__":
    unittest.main()
