"""The best standing of a settled book, and the sweep that leads to it."""

from allelse.errors import NotKept, NotSettled
from allelse.givens import keeps
from allelse.rooms import changed
from allelse.settled import looked_through, tops
from allelse.ways import told


def settled_order(room, book):
    """The order of boxes of a settled book."""
    against, boxes = looked_through(room, book)
    if against is not None:
        raise NotSettled(against)
    return boxes


def best_along(room, book, boxes, given):
    """The best for the given, by boxes in the order in which they are gone through."""
    fixed = dict(given)
    # A box hangs on none that is gone through later, so what those have so far doesn't matter.
    standing = (0,) * len(room)
    for box in boxes:
        worth = fixed[box] if box in fixed else tops(room, book, box, standing)[0]
        standing = changed(standing, box, worth)
    return standing


def told_at(room, book, box, standing, worth):
    """What is told of the standing and of it changed to this worth at this box, for all other boxes held."""
    others = tuple([other for other in range(len(room)) if other != box])
    return told(room, book, standing, changed(standing, box, worth), others)


def steps_to_top(room, book, box, standing):
    """The standings gone to by the fewest betterings at this box alone till it has its top."""
    top = tops(room, book, box, standing)[0]
    if standing[box] == top:
        return []
    return told_at(room, book, box, standing, top)[1][1:]


def swept_along(room, book, boxes, standing, given):
    """The sweep from the standing, by boxes in the order in which they are gone through."""
    if not keeps(standing, given):
        raise NotKept("the standing doesn't keep the given")
    held = [box for box, worth in given]
    way = [standing]
    for box in boxes:
        if box not in held:
            way = way + steps_to_top(room, book, box, way[-1])
    return way


def best(room, book, given):
    """The only one of the bests of a settled book for the given."""
    return best_along(room, book, settled_order(room, book), given)


def swept(room, book, standing, given):
    """A way from the standing to the best for the given, box by box in their order."""
    return swept_along(room, book, settled_order(room, book), standing, given)
