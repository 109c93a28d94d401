"""The errors by which dialrow refuses what it is handed."""


class DialError(ValueError):
    """What is handed in is refused."""


class BadSize(DialError):
    """It is no size."""


class BadRow(DialError):
    """It is no row of that size."""


class BadDeeds(DialError):
    """They are no deeds of so many dials."""


class Unlike(DialError):
    """The rows have other counts of dials."""
