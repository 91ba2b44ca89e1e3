"""Texts: nets as rows of words, and the words that tell terms and points."""

from bendproof.errors import NoText
from bendproof.nets import Net
from bendproof.ratios import figures, read, read_whole, shown


def shown_term(term):
    """A term as a word."""
    return figures(term[0]) + ":" + shown(term[1])


def read_term(word):
    """The term that a word tells, or NoText."""
    parts = word.partition(":")
    return (read_whole(parts[0]), read(parts[2]))


def shown_point(point):
    """A list of ratios as a word."""
    return ",".join([shown(one) for one in point])


def read_point(word):
    """The list of ratios that a word tells, or NoText."""
    return [read(part) for part in word.split(",")]


def shown_unit(unit):
    """A unit as a row."""
    if unit[0] == "bend":
        return "bend " + figures(unit[1])
    return " ".join(["sum", shown(unit[1])] + [shown_term(term) for term in unit[2]])


def read_unit(row):
    """The unit that a row tells, or NoText; it may be no unit of a net."""
    words = row.split(" ")
    if words[0] == "bend" and len(words) == 2:
        return ("bend", read_whole(words[1]))
    if words[0] == "sum" and len(words) > 1:
        return ("sum", read(words[1]), [read_term(word) for word in words[2:]])
    raise NoText("a unit's row tells a sum with its constant and terms, or a bend with its place")


def read_places(row, head):
    """The whole numbers that a row tells behind the word that it begins with, or NoText."""
    words = row.split(" ")
    if words[0] != head:
        raise NoText("a net's first row tells its ins, and its last one its outs")
    return [read_whole(word) for word in words[1:]]


def shown_net(net):
    """A net as a text."""
    told = net.told()
    outs = [figures(place) for place in told[2]]
    rows = ["ins " + figures(told[0])] + [shown_unit(unit) for unit in told[1]] + [" ".join(["outs"] + outs)]
    return "\n".join(rows)


def read_net(text):
    """The net that a text tells, of anything, or NoText, then NoNet."""
    if not isinstance(text, str):
        raise NoText("a net is read from a text")
    rows = text.split("\n")
    many = read_places(rows[0], "ins")
    if len(many) != 1:
        raise NoText("a net's first row tells one number of ins")
    units = [read_unit(row) for row in rows[1:-1]]
    return Net(many[0], units, read_places(rows[-1], "outs"))
