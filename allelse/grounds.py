"""Grounds of a bettering at a box, and the givens that lie in them."""

from allelse.givens import keeping, keeps
from allelse.rooms import must_be_small


def grounds(room, book, box, better, worse):
    """The standings, having worse at the box, that are bettered to themselves changed to better there, rising."""
    must_be_small(room)
    givens = [wish[0] for wish in book if wish[1:] == (box, better, worse)]
    return [
        standing for standing in keeping(room, ((box, worse),))
        if any([keeps(standing, given) for given in givens])
    ]


def lies_in(room, some, box, worse, given):
    """Whether each standing that has worse at the box and keeps the given is one of some."""
    must_be_small(room)
    within = keeping(room, tuple(sorted(given + ((box, worse),))))
    return all([standing in some for standing in within])


def givens_kept(standing, box):
    """All givens without the box that the standing keeps."""
    givens = [()]
    for at, worth in enumerate(standing):
        if at != box:
            givens = givens + [given + ((at, worth),) for given in givens]
    return givens


def wide_givens(room, some, box, worse, ground):
    """The givens that are wide for some grounds and that this ground keeps, rising."""
    must_be_small(room)
    lying = [given for given in givens_kept(ground, box) if lies_in(room, some, box, worse, given)]
    # The ground keeps a given with one tuple left out as well, so it is among the lying ones if it lies there.
    return sorted([given for given in lying if not any([less in lying for less in one_left_out(given)])])


def one_left_out(given):
    """The given with each one of its tuples left out."""
    return [given[:at] + given[at + 1:] for at in range(len(given))]
