"""The refusals, one error class each."""


class OutOfRange(Exception):
    """A number isn't in its range."""


class WrongText(Exception):
    """A market's or legs' text is wrong."""


class NoSuchDeal(Exception):
    """There's no deal with this number."""


class NotSo(Exception):
    """There isn't so much, or it isn't so."""


class NoPlace(Exception):
    """There's no place for more."""
