"""The refusals: what the program raises where the document refuses something.

Their messages are fixed texts: what a refusal bears may be anything at all,
also numbers too long to be written out, and must not fail on being told.
"""


class PayError(ValueError):
    """A refusal of what was handed in, made of a text."""


class NoAmount(PayError):
    """Not an amount that can stand here."""


class NoLine(PayError):
    """Not a line that can stand here."""


class NoDays(PayError):
    """Not a set of days."""


class NoRule(PayError):
    """Not a rule, or not the rows of a sheet."""


class NoTelling(PayError):
    """Not a telling."""


class NoStretch(PayError):
    """Not a stretch of days."""


class NoTable(PayError):
    """Not bands."""


class NoPot(PayError):
    """Not a whole pot."""


class NoFold(PayError):
    """Not a folding of the amounts."""


class NoLeave(PayError):
    """Not lots, not asks, or not what leave can be asked of."""


class NoDeed(PayError):
    """Not a deed, or none that is left to undo."""


class NoText(PayError):
    """Not a text of what is read; `at` is the first word that can't stand."""

    def __init__(self, at):
        PayError.__init__(self, "a word can't stand where it does, or lacks")
        self.at = at


class NoPart(ZeroDivisionError):
    """No part is so much by nought; made of a text."""


class NoName(KeyError):
    """Not a name, or nobody's; `name` is what was handed in."""

    def __init__(self, name):
        KeyError.__init__(self, "this is no name, or nobody has it")
        self.name = name


class NoNumber(IndexError):
    """Not a number of anything here; `number` is what was handed in."""

    def __init__(self, number):
        IndexError.__init__(self, "nothing here has this number")
        self.number = number


class TooLong(OverflowError):
    """No period so long is kept; `many` is the period that it would take."""

    def __init__(self, many):
        OverflowError.__init__(self, "the common period is too long")
        self.many = many


class NoCut(LookupError):
    """Not a day for a payday; `last` is the least that may be."""

    def __init__(self, last):
        LookupError.__init__(self, "this is no day, or too early")
        self.last = last
