"""Smaller nets: the same outs in a box, of fewer units."""

from bendproof.boxes import form_ends
from bendproof.cases import terms_form
from bendproof.forms import even_form, lone_form
from bendproof.nets import Net
from bendproof.ratios import NOUGHT, ONE, less


class Sketch:
    """What a net comes to in a box: variables are its ins, and behind them the bends that are needed.

    `widths` has each variable's span; `bent_forms` has for each bend's variable the form that it bends, a tuple, and
    `variables` by such a form its bend's variable. `total` is how many variables there can be.
    """

    def __init__(self, box, count):
        self.widths = box.told()
        self.bent_forms = {}
        self.variables = {}
        self.total = count

    def bend_form(self, form):
        """The form of a bend of a place with this form."""
        span = form_ends(form, self.widths)
        if not less(span[0], NOUGHT):
            return form
        if not less(NOUGHT, span[1]):
            return even_form(NOUGHT, self.total)
        bent_form = tuple(form)
        if bent_form not in self.variables:
            self.variables[bent_form] = len(self.widths)
            self.bent_forms[len(self.widths)] = bent_form
            self.widths.append((NOUGHT, span[1]))
        return lone_form(self.variables[bent_form], self.total)


def out_forms(net, sketch):
    """The outs' forms; the bends that these may need are put into the sketch."""
    told = net.told()
    found = [lone_form(place, sketch.total) for place in range(told[0])]
    for unit in told[1]:
        if unit[0] == "sum":
            found.append(terms_form(unit[1], unit[2], found, sketch.total))
        else:
            found.append(sketch.bend_form(found[unit[1]]))
    return [found[place] for place in told[2]]


def needed_variables(sketch, forms):
    """The variables of the bends that lead to one of the forms, rising."""
    found = []
    standing = list(forms)
    for variable in sorted(sketch.bent_forms, reverse=True):
        # The variable's share stands one further on, behind the constant.
        if any([form[variable + 1] != NOUGHT for form in standing]):
            found.append(variable)
            standing.append(sketch.bent_forms[variable])
    return sorted(found)


class Draft:
    """Units that are made one by one, each once. `places` has each variable's place, `sums` each sum's."""

    def __init__(self, many):
        self.many = many
        self.units = []
        self.places = dict([(place, place) for place in range(many)])
        self.sums = {}

    def put(self, unit):
        """Puts a unit behind the others, and tells its place."""
        self.units.append(unit)
        return self.many + len(self.units) - 1

    def seat(self, form):
        """The place of a form: that of a variable alone, or of a sum, which is made where it isn't there."""
        terms = [(self.places[k], share) for k, share in enumerate(form[1:]) if share != NOUGHT]
        if form[0] == NOUGHT and len(terms) == 1 and terms[0][1] == ONE:
            return terms[0][0]
        parts = (form[0], tuple(terms))
        if parts not in self.sums:
            self.sums[parts] = self.put(("sum", form[0], terms))
        return self.sums[parts]


def smaller(net, box):
    """A net with the same outs at every point of the box, of sums of ins and of bends that the box leaves undecided."""
    many = net.told()[0]
    sketch = Sketch(box, many + len(net.bends()))
    forms = out_forms(net, sketch)
    draft = Draft(many)
    for variable in needed_variables(sketch, forms):
        draft.places[variable] = draft.put(("bend", draft.seat(sketch.bent_forms[variable])))
    outs = [draft.seat(form) for form in forms]
    return Net(many, draft.units, outs)
