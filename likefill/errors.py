"""The refusals: one class for each, all straight under LikeError."""


class LikeError(ValueError):
    """Any refusal."""


class NoSigns(LikeError):
    """What was handed in as signs is none."""


class NoTerm(LikeError):
    """What was handed in as a term is none."""


class NoText(LikeError):
    """What was handed in to be read is no written term."""


class NoFilling(LikeError):
    """What was handed in as a filling is none."""


class NoStep(LikeError):
    """A step is none, or can't be done where it is to be done."""


class NoCounts(LikeError):
    """What was handed in as an equation, or to be shared, is none."""


class NoRow(LikeError):
    """What was handed in as a row is none, or does not hold."""


class NoSide(LikeError):
    """A term is no side under the sum, or a sum has no nought to stand for no parts."""


class TooMuch(LikeError):
    """The terms are beyond what is gone into."""
