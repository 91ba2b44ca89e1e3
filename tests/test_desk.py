import random
import unittest
from fractions import Fraction

from bendproof.bounds import bounds
from bendproof.boxes import Box
from bendproof.desk import Desk
from bendproof.errors import NoBox, NoLine, NoNet, NoText
from bendproof.nets import Net
from bendproof.ratios import minus, plus, read, shown
from bendproof.smaller import smaller
from bendproof.texts import read_net, shown_net
from helping import assert_refused, fractions, layers, pair, points_in, some_nets, strange_things, terms_at, walk

LITTLE = (1, 10 ** 40)
SIXTY = "9" * 60

# x and y; 1/2 + 2 x - y; its bend; the bend of x; the two bends, the second taken away. Outs: the last, and y.
NET = "net ins 2 ; sum 1/2 0:2 1:-1 ; bend 2 ; bend 0 ; sum 0 3:1 4:-1 ; outs 5 1"
BOX = "box -1,1 0,2"
LINES = {"net": NET, "box": BOX, "at": "at 1/2,1", "bounds": "bounds", "says": "says 3/2 5:1", "most": "most 5:1",
         "smaller": "smaller"}


def net_line(parts):
    """The line that tells a net."""
    return "net " + shown_net(Net(*parts)).replace("\n", " ; ")


def box_line(sides):
    return "box " + " ".join(shown(low) + "," + shown(high) for low, high in sides)


def point_word(point):
    return ",".join(shown(pair(one)) for one in point)


def read_point(word):
    return [read(part) for part in word.split(",")]


def told(*lines):
    """A desk that was told these lines."""
    desk = Desk()
    for line in lines:
        desk.say(line)
    return desk


class DeskTest(unittest.TestCase):
    def assert_answer(self, desk, line, expected):
        answer = desk.say(line)
        self.assertIs(type(answer), str)
        self.assertEqual(answer, expected)

    def bare(self):
        return told()

    def with_net(self):
        return told(NET)

    def full(self):
        return told(NET, BOX)

    def has_net(self, desk):
        """The desk has the net of NET and no box, as far as it can be asked."""
        self.assert_answer(desk, "at 1/2,1", "0,1")
        assert_refused(self, NoBox, desk.say, "bounds")

    def has_both(self, desk):
        self.assert_answer(desk, "at 1/2,1", "0,1")
        self.assert_answer(desk, "bounds", "-1,5/2 0,2")

    def has_nothing(self, desk):
        for word in ("box", "at", "bounds", "says", "most", "smaller"):
            assert_refused(self, NoNet, desk.say, LINES[word])

    def assert_line_refused(self, refusal, line):
        """Refused with this by a desk that has all, which has it still."""
        desk = self.full()
        assert_refused(self, refusal, desk.say, line)
        self.has_both(desk)

    def assert_refused_everywhere(self, refusal, line):
        """Refused with this by each desk, and each has what it had."""
        for make, check in ((self.bare, self.has_nothing), (self.with_net, self.has_net), (self.full, self.has_both)):
            desk = make()
            assert_refused(self, refusal, desk.say, line)
            check(desk)


class SevenWords(DeskTest):
    def test_a_desk_without_a_net(self):
        self.has_nothing(Desk())
        self.assert_answer(Desk(), NET, "6")

    def test_a_desk_with_a_net(self):
        for word in ("bounds", "says", "most", "smaller"):
            desk = self.with_net()
            assert_refused(self, NoBox, desk.say, LINES[word])
            self.has_net(desk)
        self.assert_answer(self.with_net(), "at 1/2,1", "0,1")
        self.assert_answer(self.with_net(), BOX, "ok")
        self.assert_answer(self.with_net(), NET, "6")

    def test_a_desk_with_a_net_and_a_box(self):
        desk = self.full()
        self.has_both(desk)
        self.assert_answer(desk, "at -1,2", "0,2")
        self.assert_answer(desk, "at 1,0", "3/2,0")
        # A point outside of the box is no less a point.
        self.assert_answer(desk, "at 100,-1/3", "605/6,-1/3")
        self.assert_answer(desk, "most 5:1", "3/2 1,0")
        self.assert_answer(desk, "says 3/2 5:1", "true")
        self.assert_answer(desk, BOX, "ok")
        self.has_both(desk)

    def test_net(self):
        for line, count in (("net ins 1 ; outs 0", "1"), ("net ins 6 ; outs 5 5", "6"), ("net ins 1 ; sum 0 ; outs 1", "2"),
                            ("net ins 1 ; bend 0 ; bend 1 ; sum -1/2 2:3 0:-1/3 ; outs 3 0", "4"),
                            ("net ins 6 ; " + "sum 1 ; " * 80 + "outs 85", "86")):
            for make in (self.bare, self.with_net, self.full):
                self.assert_answer(make(), line, count)

    def test_a_net_told_anew_takes_the_box_away(self):
        desk = self.full()
        self.assert_answer(desk, "net ins 1 ; bend 0 ; outs 1", "2")
        for word in ("bounds", "smaller", "says 0 1:1", "most 1:1"):
            assert_refused(self, NoBox, desk.say, word)
        self.assert_answer(desk, "at -1", "0")
        desk = self.full()
        self.assert_answer(desk, NET, "6")
        self.has_net(desk)

    def test_a_box_told_anew(self):
        desk = self.full()
        self.assert_answer(desk, "box 1,1 2,2", "ok")
        self.assert_answer(desk, "bounds", "-1/2,-1/2 2,2")
        self.assert_answer(desk, "most 5:1", "-1/2 1,2")

    def test_says(self):
        desk = self.full()
        self.assert_answer(desk, "says 3/2 5:1", "true")
        self.assert_answer(desk, "says 100 5:1 1:1 0:-1", "true")
        self.assert_answer(desk, "says 2 1:1", "true")
        # A place twice: 2 y less y.
        self.assert_answer(desk, "says 2 1:2 1:-1", "true")
        for line, bound, terms in (("says 149/100 5:1", (149, 100), [(5, (1, 1))]), ("says -1 0:1", (-1, 1), [(0, (1, 1))]),
                                   ("says 1/3 5:1/2 0:-1", (1, 3), [(5, (1, 2)), (0, (-1, 1))])):
            words = desk.say(line).split(" ")
            self.assertEqual([len(words), words[0]], [2, "false"])
            point = read_point(words[1])
            self.assertTrue(Box([((-1, 1), (1, 1)), ((0, 1), (2, 1))]).has(point))
            self.assertGreater(terms_at(read_net(NET[4:].replace(" ; ", "\n")).told()[1], terms, fractions(point)), Fraction(*bound))

    def test_most(self):
        desk = self.full()
        self.assert_answer(desk, "most 0:-1 1:1", "3 -1,2")
        self.assert_answer(desk, "most 5:1", "3/2 1,0")
        self.assertEqual(desk.say("most 1:0").split(" ")[0], "0")
        # Least is the greatest of what is taken away.
        self.assertEqual(desk.say("most 5:-1").split(" ")[0], "3/4")

    def test_smaller_keeps_the_box(self):
        desk = told("net ins 1 ; sum 2 0:1 ; bend 1 ; bend 0 ; sum 0 2:1 3:1 ; outs 4 0", "box -1,1")
        self.assert_answer(desk, "most 4:1", "4 1")
        # 2 and x, and the bend of x: places 0, 1 and 2 are x, its bend, and the sum of all.
        self.assert_answer(desk, "smaller", "3")
        self.assert_answer(desk, "bounds", "1,4 -1,1")
        self.assert_answer(desk, "most 2:1", "4 1")
        assert_refused(self, NoText, desk.say, "most 4:1")
        self.assert_answer(desk, "smaller", "3")
        self.assert_answer(desk, "box 0,1", "ok")
        self.assert_answer(desk, "smaller", "2")
        self.assert_answer(desk, "at 1/2", "3,1/2")

    def test_two_desks_do_not_meddle(self):
        one, other = Desk(), Desk()
        one.say(NET)
        self.has_nothing(other)
        other.say("net ins 1 ; outs 0")
        one.say(BOX)
        assert_refused(self, NoBox, other.say, "bounds")
        other.say("box 3,4")
        self.has_both(one)
        self.assert_answer(other, "bounds", "3,4")
        one.say("smaller")
        self.assert_answer(other, "at 7", "7")
        self.has_nothing(Desk())


class NoLines(DeskTest):
    def test_what_is_no_text(self):
        for thing in strange_things() + [0, 1, 7, b"bounds", ["bounds"], ("bounds",), Desk(), Net(1, [], [0])]:
            self.assert_refused_everywhere(NoLine, thing)

    def test_other_first_words(self):
        for line in ("", " ", "  ", "   ", " net ins 1 ; outs 0", " bounds", " at 1", "Net ins 1 ; outs 0", "nets ins 1 ; outs 0",
                     "boxes 0,1", "AT 1", "bound", "bounds\n", "bounds\t", "\tbounds", "\nsmaller", "smaller;", "say 1 0:1", "greatest 0:1",
                     "ins 1", "net\tins 1 ; outs 0", "at\n1", "; bounds", "quit", "help", "told", "1", "0:1", "net;", "at,1"):
            self.assert_refused_everywhere(NoLine, line)

    def test_too_few_and_too_many_words(self):
        for line in ("net", "box", "at", "says", "most", "at 1 1", "at 1/2,1 1", "at 1 ", "at  1/2,1", "at 1/2,1 ", "bounds 1", "bounds ",
                     "bounds  ", "bounds 0:1", "smaller 1", "smaller ", "smaller  ", "says 1", "says 0:1", "says "):
            self.assert_refused_everywhere(NoLine, line)

    def test_blanks_alone_are_words_without_signs(self):
        # By how many words there are these are lines, and what they say is not as told.
        for line in ("box ", "at ", "says  ", "most ", "box  ", "most  ", "says   "):
            assert_refused(self, NoNet, Desk().say, line)
        for line in ("net ", "net  "):
            self.assert_refused_everywhere(NoText, line)
        for line in ("at ", "box ", "box  ", "says  ", "most ", "most  "):
            self.assert_line_refused(NoText, line)
        for line in ("says  ", "most "):
            assert_refused(self, NoBox, self.with_net().say, line)


class Order(DeskTest):
    def test_no_net_ahead_of_no_box_and_no_text(self):
        for line in ("box x", "box 2,1", "box 1", "at x", "at 1,2,3", "bounds", "says x y", "says 1 99:1", "most x", "most 99:1", "smaller"):
            desk = Desk()
            assert_refused(self, NoNet, desk.say, line)
            self.has_nothing(desk)

    def test_no_box_ahead_of_no_text(self):
        for line in ("bounds", "smaller", "says x y", "says 1 99:1", "says 2/4 0:1", "most x", "most 99:1", "most 0:1 "):
            desk = self.with_net()
            assert_refused(self, NoBox, desk.say, line)
            self.has_net(desk)

    def test_no_text_ahead_of_what_the_deed_refuses(self):
        for line in ("net ins 7 ; outs x", "net ins 0 ; outs 0 ", "net ins 1 ; bend 4 ; outs 01", "net ins 1 ; outs ; ", "net ins 1 ; bend 1 ; outs 0 ;"):
            self.assert_refused_everywhere(NoText, line)
        for line in ("box 2,1 x", "box 2,1", "box 2,1 0,1 0,1", "box 2,1 0,2/4", "box 2,1 0,1 "):
            self.assert_line_refused(NoText, line)
        desk = self.with_net()
        assert_refused(self, NoText, desk.say, "box 2,1 0")
        self.has_net(desk)

    def test_what_the_deed_refuses(self):
        for line in ("net ins 7 ; outs 0", "net ins 0 ; outs 0", "net ins 1 ; outs", "net ins 1 ; outs 1", "net ins 1 ; bend 1 ; outs 0",
                     "net ins 1 ; sum 0 0:1 0:1 ; outs 0", "net ins 1 ; " + "bend 0 ; " * 21 + "outs 0"):
            self.assert_refused_everywhere(NoNet, line)
        for line in ("box 2,1 0,1", "box 0,1 2,1", f"box 0,1 0,-1/{SIXTY}"):
            self.assert_line_refused(NoBox, line)
            desk = self.with_net()
            assert_refused(self, NoBox, desk.say, line)
            self.has_net(desk)


class NoTexts(DeskTest):
    def test_net(self):
        for words in ("", "x", ";", "; ins 1 ; outs 0", "ins 1 ; outs 0 ;", "ins 1 ;; outs 0", "ins 1 ; ; outs 0", "ins 1; outs 0", "ins 1 ;outs 0",
                      "ins 1 ;  outs 0", "ins 1  ; outs 0", " ins 1 ; outs 0", "ins 1 ; outs 0 ", "ins 1 outs 0", "ins 1", "outs 0", "ins 1 , outs 0",
                      "ins 01 ; outs 0", "ins 1 ; sum 2/4 ; outs 0", "ins 1 ; sum 1 0 ; outs 0", "ins 1 ; bend ; outs 0", "ins 1 ; relu 0 ; outs 0",
                      "ins 1 ; sum 1 0:1:1 ; outs 0", "ins 1 ; outs \u0661"):
            self.assert_refused_everywhere(NoText, "net " + words)

    def test_a_line_end_is_no_part_of_a_word(self):
        for words in ("ins 1\nouts 0", "ins 1 \n outs 0", "ins 1 ;\nouts 0", "ins 1 ; bend 0\nbend 1 ; outs 0", "ins 1 ; outs 0\n", "\nins 1 ; outs 0",
                      "ins 1\n; outs 0", "ins 1 ; outs\n0", "ins 1 ;\n; outs 0", "ins 1\r; outs 0"):
            self.assert_refused_everywhere(NoText, "net " + words)
        for line in ("box -1,1\n0,2", "box -1,1 0,2\n", "at 1/2,1\n", "at 1/2,\n1", "says 1\n 0:1", "says 1 0:1\n", "most 0:1\n1:1", "most 0:1\n"):
            self.assert_line_refused(NoText, line)

    def wrong_ratios(self):
        return ["", "x", "00", "01", "-0", "+1", "2/4", "3/1", "0/1", "1/0", "1/", "/2", "1.5", "1e1", SIXTY + "9", "1/" + SIXTY + "9", "\u0661", "\xb2",
                "1;", "1:1", "--1", "\t1"]

    def test_box(self):
        for wrong in self.wrong_ratios():
            for line in (f"box {wrong},1 0,2", f"box -1,{wrong} 0,2", f"box -1,1 0,{wrong}", f"box -1,1 {wrong},5"):
                self.assert_line_refused(NoText, line)
        for line in ("box -1 0,2", "box -1,1", "box -1,1 0,2 0,2", "box -1,1,2 0,2", "box -1,1 ,", "box -1,1,0,2", "box -1,1  0,2", "box -1,1 0,2 ",
                     "box  -1,1 0,2", "box -1;1 0;2", "box -1:1 0:2", "box ,-1,1 0,2", "box -1,1, 0,2"):
            self.assert_line_refused(NoText, line)

    def test_at(self):
        for wrong in self.wrong_ratios():
            for line in (f"at {wrong},1", f"at 1,{wrong}", f"at 1/2,{wrong}"):
                self.assert_line_refused(NoText, line)
        for line in ("at 1", "at 1,2,3", "at ,", "at 1,", "at ,1", "at 1,,2", "at 1;2", "at 1:2"):
            self.assert_line_refused(NoText, line)
            desk = self.with_net()
            assert_refused(self, NoText, desk.say, line)
            self.has_net(desk)

    def test_says_and_most(self):
        for wrong in self.wrong_ratios():
            for line in (f"says {wrong} 0:1", f"says 1 0:{wrong}", f"says 1 0:1 1:{wrong}", f"most 0:{wrong}", f"most 1:1 0:{wrong}"):
                self.assert_line_refused(NoText, line)
        for wrong in self.wrong_ratios() + ["-1", "1/2", "6", "7", "99", SIXTY]:
            for line in (f"says 1 {wrong}:1", f"says 1 0:1 {wrong}:1", f"most {wrong}:1", f"most {wrong}:1 0:1", f"most 0:1 {wrong}:1"):
                self.assert_line_refused(NoText, line)
        for line in ("says 0:1 0:1", "says 1 0", "says 1 0:1 ", "says 1  0:1", "says  1 0:1", "most 0", "most 0:1 ", "most  0:1", "most 0:1  1:1",
                     "says 1 0:", "says 1 :1", "most :", "most 0::1", "most 0:1,1:1", "says 1,0:1 0:1"):
            self.assert_line_refused(NoText, line)
        self.assert_answer(self.full(), "says 2 5:0", "true")

    def test_sixty_figures_are_taken(self):
        desk = self.full()
        self.assert_answer(desk, f"at 0,{SIXTY}", f"0,{SIXTY}")
        self.assert_answer(desk, f"says {SIXTY} 1:1/{SIXTY}", "true")
        self.assert_answer(desk, f"box -1/{SIXTY},{SIXTY} 0,2", "ok")
        self.assertEqual(desk.say("most 0:1").split(",")[0], f"{SIXTY} {SIXTY}")


class ByChance(DeskTest):
    def test_answers_are_those_of_the_net(self):
        for parts, sides in some_nets(40):
            many, units, outs = parts
            net, box = Net(*parts), Box(sides)
            desk = Desk()
            self.assert_answer(desk, net_line(parts), str(many + len(units)))
            self.assert_answer(desk, box_line(sides), "ok")
            for point in points_in(sides, 2)[-4:]:
                values = walk(units, point)
                self.assert_answer(desk, "at " + point_word(point), point_word([values[place] for place in outs]))
            found = bounds(net, box)
            self.assert_answer(desk, "bounds", " ".join(shown(found[place][0]) + "," + shown(found[place][1]) for place in outs))
            self.assert_most(desk, parts, sides, [(outs[0], (1, 1)), (0, (-1, 2))])
            small = smaller(net, box).told()
            self.assert_answer(desk, "smaller", str(many + len(small[1])))
            for point in points_in(sides, 2)[-4:]:
                values = walk(units, point)
                self.assert_answer(desk, "at " + point_word(point), point_word([values[place] for place in outs]))

    def assert_most(self, desk, parts, sides, terms):
        """The greatest value comes of a point of the box; says is true from it on, and false below it."""
        words = " ".join(f"{place}:{shown(share)}" for place, share in terms)
        value, word = desk.say("most " + words).split(" ")
        point = read_point(word)
        self.assertTrue(Box(sides).has(point))
        self.assertEqual(terms_at(parts[1], terms, fractions(point)), Fraction(*read(value)))
        self.assert_answer(desk, f"says {value} {words}", "true")
        self.assert_answer(desk, f"says {shown(plus(read(value), LITTLE))} {words}", "true")
        below = minus(read(value), LITTLE)
        answer, word = desk.say(f"says {shown(below)} {words}").split(" ")
        self.assertEqual(answer, "false")
        self.assertTrue(Box(sides).has(read_point(word)))
        self.assertGreater(terms_at(parts[1], terms, fractions(read_point(word))), Fraction(*below))

    def test_layers_of_bends(self):
        chance = random.Random(83)
        for many, widths in ((2, (3, 2)), (3, (4,))):
            parts = layers(chance, many, widths)
            sides = [((-1, 1), (1, 1))] * many
            self.assert_most(told(net_line(parts), box_line(sides)), parts, sides, [(parts[2][0], (1, 1))])


class Whole(DeskTest):
    def ends(self, desk, out):
        """The greatest and the least value of a place, as the desk tells them."""
        most = desk.say(f"most {out}:1").split(" ")[0]
        least = desk.say(f"most {out}:-1").split(" ")[0]
        return read(most), minus((0, 1), read(least))

    def assert_whole(self, lines, out, out_behind, most, least, at):
        """Greatest and least value, ahead of smaller and behind it, and the outs at some points."""
        desk = told(*lines)
        for place in (out, out_behind):
            self.assertEqual(self.ends(desk, place), (most, least))
            self.assert_answer(desk, f"says {shown(most)} {place}:1", "true")
            self.assertEqual(desk.say(f"says {shown(minus(most, LITTLE))} {place}:1").split(" ")[0], "false")
            for point, value in at:
                self.assert_answer(desk, "at " + point, value)
            desk.say("smaller")

    def test_without_a_sign(self):
        # What x is without its sign, x from -2 to 3, told in many units: 3 is the greatest value, 0 the least.
        lines = ("net ins 1 ; sum 0 0:1 ; sum 0 0:-1 ; bend 1 ; bend 2 ; bend 3 ; sum 10 0:1 ; bend 6 ; sum -10 0:0 7:1 ; sum 0 5:1 4:1 8:0 ; outs 9",
                 "box -2,3")
        self.assert_whole(lines, 9, 4, (3, 1), (0, 1), [("-2", "2"), ("0", "0"), ("5/2", "5/2")])

    def test_the_middle_of_three(self):
        # The greater one of x and y, and the lesser one of this and z: of x to 1, y to 2, z to 3/2.
        lines = ("net ins 3 ; sum 0 0:1 1:-1 ; bend 3 ; sum 0 1:1 4:1 ; sum 0 5:1 2:-1 ; bend 6 ; sum 0 5:1 7:-1 ; outs 8", "box 0,1 -1,2 -3,3/2")
        desk = told(*lines)
        self.assertEqual(self.ends(desk, 8), ((3, 2), (-3, 1)))
        self.assert_answer(desk, "at 1/2,1/3,1", "1/2")
        self.assert_answer(desk, "smaller", "8")
        self.assert_answer(desk, "at 1/2,1/3,1", "1/2")
        # The out is one of these places now.
        found = {self.ends(desk, place) for place in range(3, 8)}
        self.assertIn(((3, 2), (-3, 1)), found)

    def test_folds(self):
        # x folded three times over goes up and down four times between 0 and 1.
        units = []
        place = 0
        for k in range(3):
            end = 1 + 4 * k
            units += [f"bend {place}", f"sum -1/2 {place}:1", f"bend {end + 1}", f"sum 0 {end}:2 {end + 2}:-4"]
            place = end + 3
        line = " ; ".join(["net ins 1"] + units + [f"outs {place}"])
        desk = told(line, "box 0,1")
        self.assertEqual(self.ends(desk, place), ((1, 1), (0, 1)))
        for k in range(9):
            self.assert_answer(desk, f"at {shown(pair(Fraction(k, 8)))}", str(k % 2))
        count = int(desk.say("smaller"))
        self.assertLess(count, 13)
        self.assertEqual(self.ends(desk, count - 1), ((1, 1), (0, 1)))
        for k in range(9):
            self.assert_answer(desk, f"at {shown(pair(Fraction(k, 8)))}", str(k % 2))


if __name__ == "__main__":
    unittest.main()
