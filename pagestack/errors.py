"""Errors: every failure of the browser is a PageError, which is a ValueError."""


class PageError(ValueError):
    """The base of all errors of this package."""


class MarkupError(PageError):
    """A text forms no markup."""


class TreeError(PageError):
    """A node cannot be used so."""


class StyleError(PageError):
    """A text forms no selector or style."""


class SizeError(PageError):
    """A size or place is invalid."""


class ScriptError(PageError):
    """A text forms no script."""


class RunError(PageError):
    """A script cannot go on; its word tells why."""

    def __init__(self, word):
        PageError.__init__(self, word)
        self.word = word


class PlaceError(PageError):
    """An address leads to no page."""


class TemplateError(PageError):
    """A template is none, or lacks a value."""


class PolicyError(PageError):
    """An address, an origin or a rule of loading is none."""


class StoreError(PageError):
    """A store or a jar is used in a way that cannot be, or is full."""
