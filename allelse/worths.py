"""Worths that show that a standing isn't better than another one."""

from allelse.errors import HasRing, IsBetter
from allelse.rings import ring_or_worths
from allelse.rooms import number
from allelse.ways import told


def worths_that_show(room, book, one, other):
    """Worths that keep every wish and by which other's are no greater than one's."""
    word, worths = ring_or_worths(room, book)
    if word == "ring":
        raise HasRing("the book has a ring of betterings")
    answer, shut = told(room, book, one, other)
    if answer == "better":
        raise IsBetter("the other standing is better")
    # No bettering leaves the shut set, so all in it may be lifted above all else, and every wish is kept still.
    lifted = list(worths)
    for standing in shut:
        lifted[number(room, standing)] += len(worths)
    return tuple(lifted)
