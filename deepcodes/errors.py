"""The errors of the package, one class for each kind of failure."""


class DeepError(ValueError):
    """What every error of the package is derived from."""


class InvalidInput(DeepError):
    """A value is no input of the letters that are asked."""


class InvalidTable(DeepError):
    """A value is no table of the letters that are asked."""


class InvalidFormula(DeepError):
    """A value is no term, no formula or no bush of the letters that are asked."""


class InvalidRestriction(DeepError):
    """A value is no restriction of the letters that are asked."""


class InvalidTree(DeepError):
    """A value is no tree of the letters that are asked."""


class InvalidCode(DeepError):
    """A value has not the form of a code."""


class InvalidCircuit(DeepError):
    """A value is no circuit, or no layers, of the letters that are asked."""


class InvalidClaim(DeepError):
    """A value is no claim."""


class InvalidOperation(DeepError):
    """A value of the right kind that cannot be used for this here."""


class InvalidNumber(DeepError):
    """A value is no integer, or none of those that are allowed."""

    def __init__(self, given):
        DeepError.__init__(self, "this number is not allowed here")
        self.given = given


class UnknownName(DeepError):
    """There is nothing of the name that is wanted."""

    def __init__(self, wanted):
        DeepError.__init__(self, "this name is not known")
        self.wanted = wanted


class TooMany(DeepError):
    """Something would come to more than the most that is allowed."""

    def __init__(self, most):
        DeepError.__init__(self, "there are more than are allowed")
        self.most = most


class Refused(DeepError):
    """What is asked cannot be had, for the reason that is kept."""

    def __init__(self, reason):
        DeepError.__init__(self, "this is refused")
        self.reason = reason


class ParseError(DeepError):
    """A text cannot be read: `at` tells the place."""

    def __init__(self, at):
        DeepError.__init__(self, "this text cannot be read")
        self.at = at
