"""The refusals: one class for each, all straight under ArchError."""


class ArchError(ValueError):
    """Any refusal."""


class NoRow(ArchError):
    """No row can be made of this."""


class NoTie(ArchError):
    """This is no tie."""


class NoStretch(ArchError):
    """This is no stretch of the row."""


class NoWeights(ArchError):
    """These are no weights of the row."""


class NoNumber(ArchError):
    """Nothing has this number."""


class NoSet(ArchError):
    """This is no set."""


class NoGap(ArchError):
    """This is no gap."""


class NoPlace(ArchError):
    """There is no such place."""


class NoShape(ArchError):
    """This is no shape."""


class NoText(ArchError):
    """This text can't be read."""


class NoForm(ArchError):
    """The desk knows no such form."""


class NoneYet(ArchError):
    """The desk has no row yet."""
