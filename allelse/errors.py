"""Refusals, one class for each."""


class WishError(ValueError):
    """Any refusal."""


class HasRing(WishError):
    """The book has a ring of betterings."""


class IsBetter(WishError):
    """The other standing is better."""


class NotSettled(WishError):
    """The book isn't settled; why is what stands against it."""

    def __init__(self, why):
        self.why = why


class NotKept(WishError):
    """The standing doesn't keep the given."""


class TooMany(WishError):
    """There are more than is asked to be looked through."""


class NoName(WishError):
    """It is no name."""


class Taken(WishError):
    """A wish has the name already."""


class NoWish(WishError):
    """It is no wish of the room."""


class Full(WishError):
    """As many are kept as may be."""


class Unknown(WishError):
    """No wish has the name; name is what was asked, or None."""

    def __init__(self, name):
        self.name = name


class NoBack(WishError):
    """There is nothing to take back."""


class NoStanding(WishError):
    """It is no standing of the room."""


class NotAsked(WishError):
    """The pair isn't kept."""


class NoHand(WishError):
    """It is no hand, or no list of hands."""


class NoBook(WishError):
    """It is no book of the room, or too long a one."""


class NoBox(WishError):
    """It is no box of the room."""


class NotYours(WishError):
    """The box is another hand's."""


class NoWorth(WishError):
    """It is no worth of the box."""


class NoText(WishError):
    """It isn't written as it must be."""


class NoLine(WishError):
    """It is no line of the desk."""
