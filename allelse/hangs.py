"""What hangs on what, and the order of boxes that comes of it."""

from allelse.rooms import changed
from allelse.rounds import round_of
from allelse.steps import all_local_pairs


def hangs_by(room, pairs):
    """All tuples (box, other) of a box and another one on which it hangs, by the local pairs of each standing."""
    found = set()
    for standing in pairs:
        for other in range(len(room)):
            # Local pairs that are the same as where the other box has 0 are the same as one another.
            there = pairs[changed(standing, other, 0)]
            for box, here in enumerate(pairs[standing]):
                if here != there[box]:
                    found.add((box, other))
    return sorted(found)


def hangs(room, book):
    """All tuples (box, other) of a box and another one on which it hangs, rising."""
    return hangs_by(room, all_local_pairs(room, book))


def put_in_order(room, pairs):
    """The order of boxes, or a ring of them, by all tuples of a box and another one behind which it comes."""
    ahead = {box: [other for at, other in pairs if at == box] for box in range(len(room))}
    row = []
    while len(row) < len(room):
        free = [box for box in ahead if box not in row and all([other in row for other in ahead[box]])]
        if not free:
            return ("ring", round_of(ahead))
        row.append(free[0])
    return ("order", row)


def order(room, book):
    """The order of boxes, each behind those on which it hangs, or a ring of hanging."""
    return put_in_order(room, hangs(room, book))
