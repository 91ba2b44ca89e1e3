"""Forms: lists of a ratio, the constant, and behind it a ratio for each variable, its share."""

from bendproof.ratios import plus, times


def added(one, other):
    """The sum of two forms over as many variables."""
    return [plus(first, second) for first, second in zip(one, other)]


def scaled(form, by):
    """The form, made so many times as great."""
    return [times(part, by) for part in form]


def value(form, point):
    """The ratio that a form comes to at a point."""
    total = form[0]
    for share, at in zip(form[1:], point):
        total = plus(total, times(share, at))
    return total
