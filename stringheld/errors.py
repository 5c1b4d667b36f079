"""The errors of the package."""


class TextError(ValueError):
    """The base class of all errors of the package."""


class BadKinds(TextError):
    """The kinds of points are no ascending tuple of different kinds."""


class BadText(TextError):
    """A value is no raw text, or no text of the library."""


class BadLibrary(TextError):
    """A value is no library."""


class BadPlace(TextError):
    """A place is no integer from 0 to the length of the text."""


class BadRule(TextError):
    """A value is not the name of a rule."""


class BadArguments(TextError):
    """A value is no tuple of arguments for the rule."""


class BadRules(TextError):
    """A value is no tuple of different rules."""


class NotText(TextError):
    """A value is no string."""


class InvalidText(TextError):
    """A string is not written as it has to be."""


class NotNow(TextError):
    """A line is written well, but the text does not allow it."""


class NothingToUndo(TextError):
    """No line is left to take back."""
