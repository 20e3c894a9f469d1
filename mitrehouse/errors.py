"""The errors of the package, and what a name is."""

LETTERS = "abcdefghijklmnopqrstuvwxyz"
DIGITS = "0123456789"


class MitreError(ValueError):
    """The base class of all errors of the package."""


class NotNumber(MitreError):
    """A ratio is asked for where there is none."""


class NotThere(MitreError):
    """Something that is asked for by a name or an index is not there."""


class NotRight(MitreError):
    """A value is not of the form that is due."""


class TooLarge(MitreError):
    """There would be more to look at than the document allows."""


class Malformed(MitreError):
    """A text cannot be read; at is the index of the line or word where it goes wrong."""

    def __init__(self, at):
        MitreError.__init__(self, f"it cannot be read at {at}")
        self.at = at


class Stops(MitreError):
    """A history stops at the feature with the name, for the reason."""

    def __init__(self, name, reason):
        MitreError.__init__(self, f"{name} stops: {reason}")
        self.name = name
        self.reason = reason


def is_name(value):
    """Returns True if any value is a name: 1 to 12 small letters and digits, a letter first."""
    if not isinstance(value, str) or not 1 <= len(value) <= 12:
        return False
    return value[0] in LETTERS and all(letter in LETTERS or letter in DIGITS for letter in value)
