"""Betterings: the steps from a standing to another one by the wishes of a book."""

from allelse.givens import keeps
from allelse.rooms import changed, standings


def why(book, one, other):
    """The number of the first wish by which one is bettered to other, or None."""
    for at, (given, box, better, worse) in enumerate(book):
        if one[box] == worse and keeps(one, given) and changed(one, box, better) == other:
            return at
    return None


def betterings(room, book, standing, held=None):
    """All standings to which this one is bettered at boxes that aren't held, rising."""
    left_alone = () if held is None else held
    return sorted({
        changed(standing, box, better) for given, box, better, worse in book
        if standing[box] == worse and box not in left_alone and keeps(standing, given)
    })


def all_betterings(room, book):
    """The betterings of each standing of the room, by the standings, rising."""
    return {standing: betterings(room, book, standing) for standing in standings(room)}


def local_pairs(room, book, box, standing):
    """All tuples (worse, better) of the box at the standing, rising."""
    # A wish's given never tells of its own box, so the standing as it is keeps it just where the changed one does.
    return sorted({
        (worse, better) for given, at, better, worse in book
        if at == box and keeps(standing, given)
    })


def all_local_pairs(room, book):
    """Of each standing of the room a list of the local pairs of each box, by the standings, rising."""
    # A box asks its own wishes alone, so those of the others are looked through once only.
    own = [tuple([wish for wish in book if wish[1] == box]) for box in range(len(room))]
    return {
        standing: [local_pairs(room, own[box], box, standing) for box in range(len(room))]
        for standing in standings(room)
    }


class Leads:
    """The betterings by a book at boxes that aren't held; a standing is asked about again and again, reckoned once."""

    def __init__(self, room, book, held=None):
        self.room = room
        self.wishes = book
        self.held = held
        self.known = {}

    def after(self, standing):
        """All standings to which this one is bettered, rising; a list that is only to be read."""
        if standing not in self.known:
            self.known[standing] = betterings(self.room, self.wishes, standing, self.held)
        return self.known[standing]


def is_walked(leads, row):
    """Whether each standing of a list of them but the last is bettered to the next one."""
    return all([there in leads.after(here) for here, there in zip(row, row[1:])])
