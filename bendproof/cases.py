"""Cases: the forms and rows of a net where some bends are on, some off, and the others left open."""

from bendproof.bounds import spans
from bendproof.forms import added_times, even_form, lone_form, scaled
from bendproof.ratios import MINUS_ONE, NOUGHT, less, minus, times


def bent_places(net):
    """The places that the bends bend, in the bends' order."""
    return [unit[1] for unit in net.told()[1] if unit[0] == "bend"]


def variables_in(many, case):
    """For each bend the number of its own variable behind so many ins, None where it is not open."""
    found = []
    behind = many
    for state in case:
        found.append(behind if state == "open" else None)
        if state == "open":
            behind = behind + 1
    return found


def variable_count(many, case):
    """How many variables a case has, with so many ins."""
    return many + case.count("open")


def terms_form(constant, terms, found, count):
    """The form of a constant and of terms over so many variables, their places' forms being found."""
    form = even_form(constant, count)
    for place, share in terms:
        form = added_times(form, found[place], share)
    return form


def bend_form(state, variable, bent_form, count):
    """The form of a bend in this state, of a place with that form."""
    if state == "on":
        return list(bent_form)
    if state == "off":
        return even_form(NOUGHT, count)
    return lone_form(variable, count)


def forms_in(net, case):
    """For each place its form over the ins and the open bends."""
    told = net.told()
    count = variable_count(told[0], case)
    variables = variables_in(told[0], case)
    found = [lone_form(place, count) for place in range(told[0])]
    bends = 0
    for unit in told[1]:
        if unit[0] == "sum":
            found.append(terms_form(unit[1], unit[2], found, count))
        else:
            found.append(bend_form(case[bends], variables[bends], found[unit[1]], count))
            bends = bends + 1
    return found


def form_of(net, case, terms):
    """The form of terms, each a share of a place."""
    return terms_form(NOUGHT, terms, forms_in(net, case), variable_count(net.told()[0], case))


def not_above(form, number):
    """The row that a form is not above a number."""
    return (form[1:], minus(number, form[0]))


def not_below(form, number):
    """The row that a form is not below a number."""
    return (scaled(form[1:], MINUS_ONE), minus(form[0], number))


def cap_row(form, own, span):
    """The row that an open bend's own form keeps to from above, of a place with this form and span."""
    low = span[0]
    high = span[1]
    if not less(low, NOUGHT):
        return not_above(added_times(own, form, MINUS_ONE), NOUGHT)
    if not less(NOUGHT, high):
        return not_above(own, NOUGHT)
    leaned = added_times(scaled(own, minus(high, low)), form, minus(NOUGHT, high))
    return not_above(leaned, minus(NOUGHT, times(high, low)))


def bend_rows(state, form, own, span):
    """The rows of a bend in this state with its own form, of a place with that form and span."""
    if state == "on":
        return [not_below(form, NOUGHT)]
    if state == "off":
        return [not_above(form, NOUGHT)]
    under = added_times(form, own, MINUS_ONE)
    return [not_below(own, NOUGHT), not_above(under, NOUGHT), cap_row(form, own, span)]


def side_rows(form, side):
    """The rows of an in with this form and side."""
    return [not_above(form, side[1]), not_below(form, side[0])]


def first_row(many, k):
    """The number of the first of a bend's three rows, where all bends are open and there are so many ins."""
    return 2 * many + 3 * k


def rows_by(net, case, forms, widths):
    """The rows of a case, by the forms that its places have in it and the spans that they have in the box."""
    rows = []
    for place in range(net.told()[0]):
        rows.extend(side_rows(forms[place], widths[place]))
    for state, place, own in zip(case, bent_places(net), net.bends()):
        rows.extend(bend_rows(state, forms[place], forms[own], widths[place]))
    return rows


def rows_in(net, box, case):
    """The rows that each point of the box keeps at which the bends are as the case says."""
    return rows_by(net, case, forms_in(net, case), spans(net, box))
