"""Forms: lists of a ratio, the constant, and behind it a ratio for each variable, its share."""

from bendproof.ratios import NOUGHT, ONE, plus, times


def even_form(constant, many):
    """The form over so many variables that is the constant everywhere."""
    return [constant] + [NOUGHT] * many


def lone_form(number, many):
    """The form over so many variables that is one of them alone."""
    return [NOUGHT] + [ONE if k == number else NOUGHT for k in range(many)]


def added(one, other):
    """The sum of two forms over as many variables."""
    return [plus(first, second) for first, second in zip(one, other)]


def scaled(form, by):
    """The form, made so many times as great."""
    return [times(part, by) for part in form]


def added_times(one, other, by):
    """The first form with the other added so many times."""
    # Most shares of most forms are nought, and there is nothing to reckon at them.
    return [part if more[0] == 0 else plus(part, times(more, by)) for part, more in zip(one, other)]


def value(form, point):
    """The ratio that a form comes to at a point."""
    total = form[0]
    for share, at in zip(form[1:], point):
        total = plus(total, times(share, at))
    return total
