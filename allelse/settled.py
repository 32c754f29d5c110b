"""Settled books, and what stands against a book that isn't one."""

from allelse.hangs import hangs_by, put_in_order
from allelse.rounds import round_of
from allelse.steps import all_local_pairs, local_pairs


def round_by(worths, pairs):
    """A round of so many worths by tuples (worse, better) of them, or None."""
    return round_of({here: [better for worse, better in pairs if worse == here] for here in range(worths)})


def tops_by(worths, pairs):
    """Those of so many worths that are worse in none of the tuples (worse, better), rising."""
    bettered = [worse for worse, better in pairs]
    return [worth for worth in range(worths) if worth not in bettered]


def local_round(room, book, box, standing):
    """A local round of the box at the standing, or None."""
    return round_by(room[box], local_pairs(room, book, box, standing))


def tops(room, book, box, standing):
    """The tops of the box at the standing, rising."""
    return tops_by(room[box], local_pairs(room, book, box, standing))


def first_against(rows):
    """The first round there is, else the first tops that aren't just one, else None.

    Each of the rows is a tuple (place, worths, pairs): where it is, how many worths its box has, its local pairs.
    """
    for place, worths, pairs in rows:
        found = round_by(worths, pairs)
        if found is not None:
            return ("round",) + place + (found,)
    for place, worths, pairs in rows:
        found = tops_by(worths, pairs)
        if len(found) != 1:
            return ("tops",) + place + (found,)
    return None


def looked_through(room, book):
    """What settled tells of the book, and the order of its boxes where there is one, else None."""
    pairs = all_local_pairs(room, book)
    word, boxes = put_in_order(room, hangs_by(room, pairs))
    if word == "ring":
        return ("hangs", boxes), None
    rows = [
        ((standing, box), room[box], here)
        for standing in pairs for box, here in enumerate(pairs[standing])
    ]
    return first_against(rows), boxes


def settled(room, book):
    """None where the book is settled, else the first thing that stands against it."""
    return looked_through(room, book)[0]
