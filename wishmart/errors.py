"""The refusals, one class for each kind."""


class MartError(ValueError):
    """Any refusal."""


class NoNumber(MartError):
    """There is no such number, or it cannot be set here."""


class NoMarket(MartError):
    """What was handed in is no market."""


class NoPrices(MartError):
    """What was handed in are no prices of the market."""


class Dear(MartError):
    """The prices cannot be paid: some goods are too dear."""


class Unwished(MartError):
    """Some buyer of the market wishes nothing."""


class NoBuyer(MartError):
    """The market has no buyer of this number."""


class NoGood(MartError):
    """The market has no good of this number."""


class Nothing(MartError):
    """There is no change to undo."""


class NoDealing(MartError):
    """What was handed in is no dealing of the market."""


class NoText(MartError):
    """What was handed in is not just so written."""


class NoRow(MartError):
    """What was handed in is no row that a desk knows."""
