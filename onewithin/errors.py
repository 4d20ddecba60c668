"""The refusals: one class for each, all under WayError and none under another one."""


class WayError(ValueError):
    """Any refusal."""


class NoWay(WayError):
    """What is no way."""


class NoHand(WayError):
    """What is no number of a hand of the way."""


class NoPlace(WayError):
    """What is no place of the hand."""


class NoStanding(WayError):
    """What is no standing of the way."""


class NoStep(WayError):
    """A step that can't be taken: its number in the run, None where the run is no tuple."""

    def __init__(self, number):
        self.number = number


class TooMany(WayError):
    """More is come to than is gone through."""


class NoKind(WayError):
    """What is no kind of box."""


class NoTemplate(WayError):
    """What is no template."""


class NoMany(WayError):
    """What is no number of hands here."""


class NoPair(WayError):
    """What is no pair of the template."""


class NoNode(WayError):
    """What is no node of a tree."""


class NoName(WayError):
    """What is no name of a known way or template."""


class NoText(WayError):
    """A text that isn't a way's or a template's: the number of the row, None where it is no text."""

    def __init__(self, part):
        self.part = part


class NoCall(WayError):
    """A row that the desk doesn't know."""

    def __init__(self, row):
        self.row = row


class NoKept(WayError):
    """A name by which the desk keeps no way."""

    def __init__(self, name):
        self.name = name
