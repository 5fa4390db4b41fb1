"""The errors of the package: direct subclasses of SeatError, none derived from another one."""


class SeatError(ValueError):
    """What all errors of the package have in common."""


class InvalidRule(SeatError):
    """A rule has a wrong number, or there is no number of this name."""

    def __init__(self, word):
        self.word = word


class InvalidDay(SeatError):
    """There is no event of a day, or none that is possible, at this index."""

    def __init__(self, at):
        self.at = at


class InvalidText(SeatError):
    """A text is not as it is written by this package, from this part on."""

    def __init__(self, at):
        self.at = at


class InvalidFault(SeatError):
    """There is no such fault."""

    def __init__(self):
        pass


class InvalidLog(SeatError):
    """There is no entry of a log, or one that is too early, at this index."""

    def __init__(self, at):
        self.at = at


class InvalidCommand(SeatError):
    """A desk knows no such command."""

    def __init__(self):
        pass


class Refused(SeatError):
    """A live house cannot do the event at this index."""

    def __init__(self, at):
        self.at = at
