"""The refusals: one class for each, all under BendError."""


class BendError(ValueError):
    """Any refusal."""


class NoRatio(BendError):
    """What makes no ratio."""


class NoText(BendError):
    """What is not written as told."""


class NoBox(BendError):
    """What makes no box, or a box that isn't there."""


class NoNet(BendError):
    """What makes no net, or a net that isn't there."""


class Unlike(BendError):
    """Nets that can't be held against one another."""


class NoLine(BendError):
    """What is no line for the desk."""
