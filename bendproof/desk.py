"""The desk: it has a net and a box, and answers lines."""

from bendproof.bounds import bounds
from bendproof.boxes import Box
from bendproof.errors import NoBox, NoLine, NoNet, NoText
from bendproof.judging import greatest, judged
from bendproof.ratios import figures, read, shown
from bendproof.smaller import smaller
from bendproof.texts import read_net, read_point, read_term, shown_point

# For each first word the least and the greatest number of words behind it; None where there is no greatest.
WORDS = {"net": (1, None), "box": (1, None), "at": (1, 1), "bounds": (0, 0), "says": (2, None), "most": (1, None),
         "smaller": (0, 0)}
IN_A_BOX = ("bounds", "says", "most", "smaller")


def line_words(line):
    """The words of a line, of anything, or NoLine."""
    if not isinstance(line, str):
        raise NoLine("a line is a text")
    words = line.split(" ")
    if words[0] not in WORDS:
        raise NoLine("a line begins with one of seven words")
    many = WORDS[words[0]]
    behind = len(words) - 1
    if behind < many[0] or (many[1] is not None and behind > many[1]):
        raise NoLine("a line has as many words as its first one asks for")
    return words


def place_count(net):
    """How many places a net has."""
    told = net.told()
    return told[0] + len(told[1])


def net_of(words):
    """The net that a line's words tell, or NoText, then NoNet."""
    rows = [[]]
    for word in words:
        # Else a line end within a word would part rows too.
        if "\n" in word:
            raise NoText("a line end is no part of a word")
        if word == ";":
            rows.append([])
        else:
            rows[-1].append(word)
    return read_net("\n".join([" ".join(row) for row in rows]))


def side_of(word):
    """The side that a word tells, or NoText."""
    ends = read_point(word)
    if len(ends) != 2:
        raise NoText("a side is a low and a high")
    return (ends[0], ends[1])


def box_of(words, net):
    """The box that words tell, with a side for each in of a net, or NoText, then NoBox."""
    sides = [side_of(word) for word in words]
    if len(sides) != net.told()[0]:
        raise NoText("a box has a side for each in")
    return Box(sides)


def point_of(word, net):
    """The point that a word tells, with a ratio for each in of a net, or NoText."""
    point = read_point(word)
    if len(point) != net.told()[0]:
        raise NoText("a point has a ratio for each in")
    return point


def terms_of(words, net):
    """The terms that words tell, of places of a net, or NoText."""
    terms = [read_term(word) for word in words]
    count = place_count(net)
    if any([term[0] >= count for term in terms]):
        raise NoText("a term's place is one of the net's")
    return terms


class Desk:
    """A net and a box, None each where there is none."""

    def __init__(self):
        self.net = None
        self.box = None

    def say(self, line):
        """The answer to a line, of anything, or a refusal, which changes nothing."""
        words = line_words(line)
        if words[0] == "net":
            return self.take_net(net_of(words[1:]))
        if self.net is None:
            raise NoNet("the desk has no net")
        if self.box is None and words[0] in IN_A_BOX:
            raise NoBox("the desk has no box")
        return self.answer(words[0], words[1:])

    def answer(self, deed, words):
        """The answer to a line's words, where the desk has what the deed needs."""
        if deed == "box":
            self.box = box_of(words, self.net)
            return "ok"
        if deed == "at":
            return shown_point(self.net.outs_at(point_of(words[0], self.net)))
        if deed == "bounds":
            found = bounds(self.net, self.box)
            return " ".join([shown_point(found[place]) for place in self.net.told()[2]])
        if deed == "says":
            return self.judge(read(words[0]), terms_of(words[1:], self.net))
        if deed == "most":
            found = greatest(self.net, self.box, terms_of(words, self.net))
            return shown(found[0]) + " " + shown_point(found[1])
        self.net = smaller(self.net, self.box)
        return figures(place_count(self.net))

    def take_net(self, net):
        """Has another net, and no box."""
        self.net = net
        self.box = None
        return figures(place_count(net))

    def judge(self, bound, terms):
        """Whether terms keep to a bound in the box, and else where they don't."""
        found = judged(self.net, self.box, (terms, bound))
        if found[0] == "true":
            return "true"
        return "false " + shown_point(found[1])
