"""Settled books, and what stands against a book that isn't one."""

from allelse.hangs import hangs_by, put_in_order
from allelse.rounds import round_of
from allelse.steps import all_local_pairs, local_pairs


def round_by(worths, pairs):
    """A round of so many worths by tuples (worse, better) of them, or None."""
    return round_of({here: [better for worse, better in pairs if worse == here] for here in range(worths)})


def tops_by(worths, pairs):
    """Those of so many worths that are worse in none of the tuples (worse, better), rising."""
    bettered = [worse for worse, better in pairs]
    return [worth for worth in range(worths) if worth not in bettered]


def local_round(room, book, box, standing):
    """A local round of the box at the standing, or None."""
    return round_by(room[box], local_pairs(room, book, box, standing))


def tops(room, book, box, standing):
    """The tops of the box at the standing, rising."""
    return tops_by(room[box], local_pairs(room, book, box, standing))


def first_round(room, pairs):
    """The first local round there is, with its standing and box, by the local pairs of each standing, or None."""
    for standing in pairs:
        for box, here in enumerate(pairs[standing]):
            worths = round_by(room[box], here)
            if worths is not None:
                return ("round", standing, box, worths)
    return None


def first_tops(room, pairs):
    """The first tops that aren't just one, with their standing and box, likewise, or None."""
    for standing in pairs:
        for box, here in enumerate(pairs[standing]):
            worths = tops_by(room[box], here)
            if len(worths) != 1:
                return ("tops", standing, box, worths)
    return None


def looked_through(room, book):
    """What settled tells of the book, and the order of its boxes where there is one, else None."""
    pairs = all_local_pairs(room, book)
    word, boxes = put_in_order(room, hangs_by(room, pairs))
    if word == "ring":
        return ("hangs", boxes), None
    against = first_round(room, pairs)
    if against is None:
        against = first_tops(room, pairs)
    return against, boxes


def settled(room, book):
    """None where the book is settled, else the first thing that stands against it."""
    return looked_through(room, book)[0]
