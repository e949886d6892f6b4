"""The refusals. Each stands straight under HouseError, so that a caller can catch one of them or all."""


class HouseError(ValueError):
    """Any refusal."""


class NoDeed(HouseError):
    """What was handed in is no deed, or has a part that is none."""


class Down(HouseError):
    """The house is down."""


class Up(HouseError):
    """The house is up already."""


class NoLetter(HouseError):
    """The yard has no such letter, or it can't be carried."""


class Busy(HouseError):
    """The house's claim of the name still runs."""


class NoClaim(HouseError):
    """The house has no running claim of the name."""


class TooMany(HouseError):
    """More worlds were found than are gone through."""


class NoText(HouseError):
    """The text is not the writing of anything."""


class NoRow(HouseError):
    """The desk knows no such row."""
