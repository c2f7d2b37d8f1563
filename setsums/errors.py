"""The refusals: one class for each thing that may be wrong."""


class SetError(ValueError):
    """Any refusal."""


class BadCount(SetError):
    """Not a number of names that there may be."""


class BadSet(SetError):
    """Not a set of the names there are."""


class BadName(SetError):
    """Not one of the names there are."""


class BadNumber(SetError):
    """Not a number that may stand here."""


class BadOrder(SetError):
    """Not an order of all the names."""


class BadTable(SetError):
    """Not a table."""


class Unlike(SetError):
    """Two tables of unlike many names."""


class NoCover(SetError):
    """No row of the sets covers all names."""


class NothingDone(SetError):
    """There is nothing to take back."""
